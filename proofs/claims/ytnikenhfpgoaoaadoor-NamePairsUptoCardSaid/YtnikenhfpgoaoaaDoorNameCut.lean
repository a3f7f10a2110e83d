/- Layer 1: the contracts of name.Split, name.Parent, name.Base: what each answers, for every text. -/
import Derived.Test.YtnikenhfpgoaoaaDoorNameIn
import Derived.Test.YtnikenhfpgoaoaaDoorNamePath
namespace Go.Proofs.YtnikenhfpgoaoaaDoor
open Go.RowKit Go.Lib
namespace NC
open NF NI

theorem path_short {l : List UInt8} (h : NP.pathL l = true) : l.length ≤ 400 := by
  unfold NP.pathL at h
  simp only [Bool.and_eq_true, decide_eq_true_eq] at h
  exact h.1.1
def SplitPost (s : ByteArray) (w : World) (e : Ending) (w' : World) : Prop := ∃ (bk : Nat) (xs : List ByteArray), e = .returned (.slice (some ⟨bk, 0, none⟩) xs.length xs.length) ∧
      xs.map (·.data.toList) = NP.cutOn s.data.toList ∧ (∀ x ∈ xs, x.size ≤ s.size) ∧ xs.length = s.data.toList.count 47 + 1 ∧ Lies bk xs w' ∧ w.heap.size ≤ bk ∧ Below w.heap.size w w'
theorem split_no (s : ByteArray) (w : World) (he : Env w) (hs : s.size ≤ maxLen) (hp : NP.pathL s.data.toList = false) :
    Calls Tryd.prog 20 #[.string s] w fun e w' => e = .returned (.slice none 0 0) ∧ Below w.heap.size w w' := by
  have cP := path_any s w he hs
  rw [hp] at cP
  clear hp he
  go_enter Tryd.func20, Tryd.ntmps20
  go_wp2_with fail
  refine cP.mono ?_
  rintro e w1 ⟨rfl, hb⟩
  go_wp2
  go_ret
  exact ⟨rfl, hb⟩
theorem split_yes (s : ByteArray) (w : World) (he : Env w) (hs : s.size ≤ maxLen) (hp : NP.pathL s.data.toList = true) :
    Calls Tryd.prog 20 #[.string s] w (SplitPost s w) := by
  have h4 : s.size ≤ 400 := by rw [Lib.size_eq]; exact path_short hp
  have cP := path_any s w he hs
  rw [hp] at cP
  have He := Lib.hid he
  clear hp he
  go_enter Tryd.func20, Tryd.ntmps20
  go_wp2_with fail
  refine cP.mono ?_
  rintro e w1 ⟨rfl, hb⟩
  have cS := split_any s w1 (He.out.below hb) h4
  have Hb := Lib.hid hb
  clear hb cP
  go_wp2_with fail
  refine cS.mono ?_
  rintro e w2 ⟨xs, rfl, h1, h2, h3, h5, hb2⟩
  have H : Hid (SplitPost s w (.returned (.slice (some ⟨w1.heap.size, 0, none⟩) xs.length xs.length)) w2) := Lib.hid ⟨_, xs, rfl, by rw [h1, NP.split_eq], h2, h3, h5, Hb.out.size, Hb.out.trans (hb2.mono Hb.out.size)⟩
  clear h1 h2 h3 h5 hb2 cS
  go_wp2
  go_ret
  exact H.out
def TextPost (l : List UInt8) (w : World) (e : Ending) (w' : World) : Prop := ∃ t : ByteArray, e = .returned (.string t) ∧ t.data.toList = l ∧ Below w.heap.size w w'
theorem last_any (s : ByteArray) (w : World) (hs : s.size ≤ 400) :
    Calls Tryd.prog 35 #[.string s, .int .u8 47] w fun e w' => e = .returned (.int .i64 (Lib.lastIndexByte s 47)) ∧ w = w' := by
  refine (Tryd.strings_LastIndexByte s 47 (by omega) w).mono ?_
  rintro e w' ⟨rfl, rfl⟩
  exact ⟨rfl, rfl⟩
theorem extract_to (s : ByteArray) (i : Nat) : (s.extract 0 i).data.toList = s.data.toList.take i := Lib.extract_from_zero s i
theorem extract_from (s : ByteArray) (i : Nat) : (s.extract i s.size).data.toList = s.data.toList.drop i := by
  rw [Lib.extract_data, List.take_of_length_le]
  rw [List.length_drop, Lib.size_eq]
  omega
set_option maxHeartbeats 800000 in
theorem parent_any (s : ByteArray) (w : World) (he : Env w) (hs : s.size ≤ maxLen) :
    Calls Tryd.prog 13 #[.string s] w (TextPost (NP.parentL s.data.toList) w) := by
  have cP := path_any s w he hs
  clear he
  cases hp : NP.pathL s.data.toList
  · have Hf : Hid (NP.parentL s.data.toList = []) := Lib.hid (by unfold NP.parentL; rw [hp]; rfl)
    rw [hp] at cP
    clear hp
    go_enter Tryd.func13, Tryd.ntmps13
    go_wp2_with fail
    refine cP.mono ?_
    rintro e w1 ⟨rfl, hb⟩
    go_wp2
    go_ret
    exact ⟨_, rfl, by rw [Hf.out], hb⟩
  · have h4 : s.size ≤ 400 := by rw [Lib.size_eq]; exact path_short hp
    have Hf : Hid (NP.parentL s.data.toList = NP.upL s.data.toList) := Lib.hid (by unfold NP.parentL; rw [hp]; rfl)
    rw [hp] at cP
    clear hp
    have cL := fun W => last_any s W h4
    rcases NP.last_at s with ⟨h1, h2⟩ | ⟨i, hi, h1, h2, h3⟩
    · rw [h1] at cL
      have Hu := Lib.hid (NP.upL_none h2)
      clear h1 h2
      go_enter Tryd.func13, Tryd.ntmps13
      go_wp2_with fail
      refine cP.mono ?_
      rintro e w1 ⟨rfl, hb⟩
      go_wp2_with fail
      refine (cL _).mono ?_
      rintro e w2 ⟨rfl, rfl⟩
      go_wp2
      go_ret
      refine ⟨_, rfl, ?_, hb⟩
      rw [Hf.out, Hu.out]
      all_goals first | rfl | (simp; done) | (simp; left; decide)
    · rw [h1] at cL
      have Hu : Hid (NP.upL s.data.toList = s.data.toList.take i) := Lib.hid (by
        have := NP.upL_snoc (u := s.data.toList.take i) h3
        rw [← h2] at this
        exact this)
      have hiz : (i : Int) ≤ s.size := by omega
      clear h1 h2 h3
      go_enter Tryd.func13, Tryd.ntmps13
      go_wp2_with fail
      refine cP.mono ?_
      rintro e w1 ⟨rfl, hb⟩
      go_wp2_with fail
      refine (cL _).mono ?_
      rintro e w2 ⟨rfl, rfl⟩
      go_wp2
      go_ret
      refine ⟨_, rfl, ?_, hb⟩
      rw [Hf.out, Hu.out, ← extract_to]
      all_goals first | rfl | (simp; done) | (simp; left; decide)
set_option maxHeartbeats 800000 in
theorem base_any (s : ByteArray) (w : World) (he : Env w) (hs : s.size ≤ maxLen) :
    Calls Tryd.prog 15 #[.string s] w (TextPost (NP.baseL s.data.toList) w) := by
  have cP := path_any s w he hs
  clear he
  cases hp : NP.pathL s.data.toList
  · have Hf : Hid (NP.baseL s.data.toList = []) := Lib.hid (by unfold NP.baseL; rw [hp]; rfl)
    rw [hp] at cP
    clear hp
    go_enter Tryd.func15, Tryd.ntmps15
    go_wp2_with fail
    refine cP.mono ?_
    rintro e w1 ⟨rfl, hb⟩
    go_wp2
    go_ret
    exact ⟨_, rfl, by rw [Hf.out], hb⟩
  · have h4 : s.size ≤ 400 := by rw [Lib.size_eq]; exact path_short hp
    have Hf : Hid (NP.baseL s.data.toList = NP.lastL s.data.toList) := Lib.hid (by unfold NP.baseL; rw [hp]; rfl)
    rw [hp] at cP
    clear hp
    have cL := fun W => last_any s W h4
    rcases NP.last_at s with ⟨h1, h2⟩ | ⟨i, hi, h1, h2, h3⟩
    · rw [h1] at cL
      have Hu := Lib.hid (NP.lastL_none h2)
      clear h1 h2
      go_enter Tryd.func15, Tryd.ntmps15
      go_wp2_with fail
      refine cP.mono ?_
      rintro e w1 ⟨rfl, hb⟩
      go_wp2_with fail
      refine (cL _).mono ?_
      rintro e w2 ⟨rfl, rfl⟩
      go_wp2
      go_ret
      refine ⟨_, rfl, ?_, hb⟩
      rw [Hf.out, Hu.out]
      all_goals first | rfl | (simp; done) | (simp; left; decide)
    · rw [h1] at cL
      have Hu : Hid (NP.lastL s.data.toList = s.data.toList.drop (i + 1)) := Lib.hid (by
        have := NP.lastL_snoc (u := s.data.toList.take i) h3
        rw [← h2] at this
        exact this)
      have hiz : (i : Int) + 1 ≤ s.size := by omega
      clear h1 h2 h3
      go_enter Tryd.func15, Tryd.ntmps15
      go_wp2_with fail
      refine cP.mono ?_
      rintro e w1 ⟨rfl, hb⟩
      go_wp2_with fail
      refine (cL _).mono ?_
      rintro e w2 ⟨rfl, rfl⟩
      go_wp2
      go_ret
      refine ⟨_, rfl, ?_, hb⟩
      rw [Hf.out, Hu.out, ← extract_from]
      all_goals first | rfl | (simp; done) | (simp; left; decide)
end NC
end Go.Proofs.YtnikenhfpgoaoaaDoor
