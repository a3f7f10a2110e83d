/- Layer 2's statements: their own guard 'awake'. -/
import Derived.Test.YtkfddnkeoopfbaaDoorGlobMatch
namespace Go.Proofs.YtkfddnkeoopfbaaDoor
open Go.RowKit Go.Lib
namespace GL
open GP GM GH NF

def Ans (b : Bool) (w : World) (e : Ending) (w' : World) : Prop := e = .returned (.bool b) ∧ Below w.heap.size w w'
theorem m0 : matL [97, 47, 42, 46, 103, 111] [97, 47, 98, 46, 103, 111] = true := by kernel_rfl
theorem say0 (w : World) (he : Env w) : Calls Tryd.prog 6 #[.string ⟨#[97, 47, 42, 46, 103, 111]⟩, .string ⟨#[97, 47, 98, 46, 103, 111]⟩] w (Ans true w) := by
  have h := match_any ⟨#[97, 47, 42, 46, 103, 111]⟩ ⟨#[97, 47, 98, 46, 103, 111]⟩ w he (of_decide_eq_true rfl) (of_decide_eq_true rfl)
  have e1 : (ByteArray.mk #[97, 47, 42, 46, 103, 111]).data.toList = [97, 47, 42, 46, 103, 111] := rfl
  have e2 : (ByteArray.mk #[97, 47, 98, 46, 103, 111]).data.toList = [97, 47, 98, 46, 103, 111] := rfl
  rw [e1, e2, m0] at h
  exact h
theorem m1 : matL [97, 47, 42, 46, 103, 111] [97, 47, 99, 47, 98, 46, 103, 111] = false := by kernel_rfl
theorem say1 (w : World) (he : Env w) : Calls Tryd.prog 6 #[.string ⟨#[97, 47, 42, 46, 103, 111]⟩, .string ⟨#[97, 47, 99, 47, 98, 46, 103, 111]⟩] w (Ans false w) := by
  have h := match_any ⟨#[97, 47, 42, 46, 103, 111]⟩ ⟨#[97, 47, 99, 47, 98, 46, 103, 111]⟩ w he (of_decide_eq_true rfl) (of_decide_eq_true rfl)
  have e1 : (ByteArray.mk #[97, 47, 42, 46, 103, 111]).data.toList = [97, 47, 42, 46, 103, 111] := rfl
  have e2 : (ByteArray.mk #[97, 47, 99, 47, 98, 46, 103, 111]).data.toList = [97, 47, 99, 47, 98, 46, 103, 111] := rfl
  rw [e1, e2, m1] at h
  exact h
theorem m2 : matL [42, 46, 103, 111] [97, 47, 99, 47, 98, 46, 103, 111] = true := by kernel_rfl
theorem say2 (w : World) (he : Env w) : Calls Tryd.prog 6 #[.string ⟨#[42, 46, 103, 111]⟩, .string ⟨#[97, 47, 99, 47, 98, 46, 103, 111]⟩] w (Ans true w) := by
  have h := match_any ⟨#[42, 46, 103, 111]⟩ ⟨#[97, 47, 99, 47, 98, 46, 103, 111]⟩ w he (of_decide_eq_true rfl) (of_decide_eq_true rfl)
  have e1 : (ByteArray.mk #[42, 46, 103, 111]).data.toList = [42, 46, 103, 111] := rfl
  have e2 : (ByteArray.mk #[97, 47, 99, 47, 98, 46, 103, 111]).data.toList = [97, 47, 99, 47, 98, 46, 103, 111] := rfl
  rw [e1, e2, m2] at h
  exact h
set_option maxHeartbeats 800000 in
theorem awake_any (w : World) (he : Env w) : Calls Tryd.prog 5 #[] w (Ans true w) := by
  have c0 := say0 w he
  have He := Lib.hid he
  clear he
  go_enter Tryd.func5, Tryd.ntmps5
  go_wp2_with fail
  refine c0.mono ?_
  rintro e w1 ⟨rfl, hb1⟩
  have c1 := say1 w1 (He.out.below hb1)
  have Hb1 := Lib.hid hb1
  clear hb1 c0
  go_wp2_with fail
  refine c1.mono ?_
  rintro e w2 ⟨rfl, hb2⟩
  have Hb2 := Lib.hid (Hb1.out.trans (hb2.mono Hb1.out.size))
  have c2 := say2 w2 (He.out.below Hb2.out)
  clear hb2 c1
  go_wp2_with fail
  refine c2.mono ?_
  rintro e w3 ⟨rfl, hb3⟩
  have Hb3 := Lib.hid (Hb2.out.trans (hb3.mono Hb2.out.size))
  clear hb3 c2
  go_wp2_with fail
  go_ret
  exact ⟨rfl, Hb3.out⟩
end GL
end Go.Proofs.YtkfddnkeoopfbaaDoor
