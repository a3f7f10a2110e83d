/- Layer 1: the contract of name.Split: what it answers, for every text. -/
import Derived.Test.YtechekdiadpmoaaDoorQNameFn
import Derived.Test.YtechekdiadpmoaaDoorQBase
set_option linter.all false
set_option maxRecDepth 100000
set_option maxHeartbeats 25600000
namespace Go.Proofs.YtechekdiadpmoaaDoor
open Go.RowKit Go.Lib
namespace NC
open NF

theorem path_short {l : List UInt8} (h : NP.pathL l = true) : l.length ≤ 400 := by
  unfold NP.pathL at h
  simp only [Bool.and_eq_true, decide_eq_true_eq] at h
  exact h.1.1
def SplitPost (s : ByteArray) (w : World) (e : Ending) (w' : World) : Prop := ∃ (bk : Nat) (xs : List ByteArray), e = .returned (.slice (some ⟨bk, 0, none⟩) xs.length xs.length) ∧
      xs.map (·.data.toList) = NP.cutOn s.data.toList ∧ (∀ x ∈ xs, x.size ≤ s.size) ∧ xs.length = s.data.toList.count 47 + 1 ∧ Lies bk xs w' ∧ w.heap.size ≤ bk ∧ Below w.heap.size w w'
theorem split_no (s : ByteArray) (w : World) (he : Env w) (hs : s.size ≤ maxLen) (hp : NP.pathL s.data.toList = false) :
    Calls Tryd.prog 54 #[.string s] w fun e w' => e = .returned (.slice none 0 0) ∧ Below w.heap.size w w' := by
  have cP := path_any s w he hs
  rw [hp] at cP
  clear hp he
  go_enter Tryd.func54, Tryd.ntmps54
  go_wp2_with fail
  refine cP.mono ?_
  rintro e w1 ⟨rfl, hb⟩
  go_wp2
  go_ret
  exact ⟨rfl, hb⟩
theorem split_yes (s : ByteArray) (w : World) (he : Env w) (hs : s.size ≤ maxLen) (hp : NP.pathL s.data.toList = true) :
    Calls Tryd.prog 54 #[.string s] w (SplitPost s w) := by
  have h4 : s.size ≤ 400 := by rw [Lib.size_eq]; exact path_short hp
  have cP := path_any s w he hs
  rw [hp] at cP
  have He := Lib.hid he
  clear hp he
  go_enter Tryd.func54, Tryd.ntmps54
  go_wp2_with fail
  refine cP.mono ?_
  rintro e w1 ⟨rfl, hb⟩
  have cS := split_any s w1 (He.out.below hb) h4
  have Hb := Lib.hid hb
  clear hb cP
  go_wp2_with fail
  refine cS.mono ?_
  rintro e w2 ⟨xs, rfl, h1, h2, h3, h5, hb2⟩
  have H : Hid (SplitPost s w (.returned (.slice (some ⟨w1.heap.size, 0, none⟩) xs.length xs.length)) w2) := Lib.hid ⟨_, xs, rfl, by rw [h1, NP.split_eq], h2, h3, h5, Hb.out.size, Hb.out.trans (hb2.mono Hb.out.size)⟩
  clear h1 h2 h3 h5 hb2 cS
  go_wp2
  go_ret
  exact H.out
def TextPost (l : List UInt8) (w : World) (e : Ending) (w' : World) : Prop := ∃ t : ByteArray, e = .returned (.string t) ∧ t.data.toList = l ∧ Below w.heap.size w w'
theorem extract_to (s : ByteArray) (i : Nat) : (s.extract 0 i).data.toList = s.data.toList.take i := Lib.extract_from_zero s i
theorem extract_from (s : ByteArray) (i : Nat) : (s.extract i s.size).data.toList = s.data.toList.drop i := by
  rw [Lib.extract_data, List.take_of_length_le]
  rw [List.length_drop, Lib.size_eq]
  omega
end NC
end Go.Proofs.YtechekdiadpmoaaDoor
