/- Layer 1: the contracts of name.Within, name.Parent, name.Base: what each answers, for every text. -/
import Derived.Test.YtmpmmebmhffaeaaGreatDoorQNmA
import Derived.Test.YtmpmmebmhffaeaaGreatDoorQBase
set_option linter.all false
set_option maxRecDepth 100000
set_option maxHeartbeats 25600000
namespace Go.Proofs.YtmpmmebmhffaeaaGreatDoor
open Go.RowKit Go.Lib
namespace NI
open NF

/- Join -/
end NI
namespace NC
open NF NI

theorem path_short {l : List UInt8} (h : NP.pathL l = true) : l.length ≤ 400 := by
  unfold NP.pathL at h
  simp only [Bool.and_eq_true, decide_eq_true_eq] at h
  exact h.1.1
def TextPost (l : List UInt8) (w : World) (e : Ending) (w' : World) : Prop := ∃ t : ByteArray, e = .returned (.string t) ∧ t.data.toList = l ∧ Below w.heap.size w w'
theorem extract_to (s : ByteArray) (i : Nat) : (s.extract 0 i).data.toList = s.data.toList.take i := Lib.extract_from_zero s i
theorem extract_from (s : ByteArray) (i : Nat) : (s.extract i s.size).data.toList = s.data.toList.drop i := by
  rw [Lib.extract_data, List.take_of_length_le]
  rw [List.length_drop, Lib.size_eq]
  omega
theorem last_any (s : ByteArray) (w : World) (hs : s.size ≤ 400) :
    Calls Tryz.prog 79 #[.string s, .int .u8 47] w fun e w' => e = .returned (.int .i64 (Lib.lastIndexByte s 47)) ∧ w = w' := by
  refine (Tryz.strings_LastIndexByte s 47 (by omega) w).mono ?_
  rintro e w' ⟨rfl, rfl⟩
  exact ⟨rfl, rfl⟩
set_option maxHeartbeats 800000 in
theorem parent_any (s : ByteArray) (w : World) (he : Env w) (hs : s.size ≤ maxLen) :
    Calls Tryz.prog 58 #[.string s] w (TextPost (NP.parentL s.data.toList) w) := by
  have cP := path_any s w he hs
  clear he
  cases hp : NP.pathL s.data.toList
  · have Hf : Hid (NP.parentL s.data.toList = []) := Lib.hid (by unfold NP.parentL; rw [hp]; rfl)
    rw [hp] at cP
    clear hp
    go_enter Tryz.func58, Tryz.ntmps58
    go_wp2_with fail
    refine cP.mono ?_
    rintro e w1 ⟨rfl, hb⟩
    go_wp2
    go_ret
    exact ⟨_, rfl, by rw [Hf.out], hb⟩
  · have h4 : s.size ≤ 400 := by rw [Lib.size_eq]; exact path_short hp
    have Hf : Hid (NP.parentL s.data.toList = NP.upL s.data.toList) := Lib.hid (by unfold NP.parentL; rw [hp]; rfl)
    rw [hp] at cP
    clear hp
    have cL := fun W => last_any s W h4
    rcases NP.last_at s with ⟨h1, h2⟩ | ⟨i, hi, h1, h2, h3⟩
    · rw [h1] at cL
      have Hu := Lib.hid (NP.upL_none h2)
      clear h1 h2
      go_enter Tryz.func58, Tryz.ntmps58
      go_wp2_with fail
      refine cP.mono ?_
      rintro e w1 ⟨rfl, hb⟩
      go_wp2_with fail
      refine (cL _).mono ?_
      rintro e w2 ⟨rfl, rfl⟩
      go_wp2
      go_ret
      refine ⟨_, rfl, ?_, hb⟩
      rw [Hf.out, Hu.out]
      all_goals first | rfl | (simp; done) | (simp; left; decide)
    · rw [h1] at cL
      have Hu : Hid (NP.upL s.data.toList = s.data.toList.take i) := Lib.hid (by
        have := NP.upL_snoc (u := s.data.toList.take i) h3
        rw [← h2] at this
        exact this)
      have hiz : (i : Int) ≤ s.size := by omega
      clear h1 h2 h3
      go_enter Tryz.func58, Tryz.ntmps58
      go_wp2_with fail
      refine cP.mono ?_
      rintro e w1 ⟨rfl, hb⟩
      go_wp2_with fail
      refine (cL _).mono ?_
      rintro e w2 ⟨rfl, rfl⟩
      go_wp2
      go_ret
      refine ⟨_, rfl, ?_, hb⟩
      rw [Hf.out, Hu.out, ← extract_to]
      all_goals first | rfl | (simp; done) | (simp; left; decide)
end NC
end Go.Proofs.YtmpmmebmhffaeaaGreatDoor
