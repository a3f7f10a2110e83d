/- Layer 9: the statements' own guard 'awake'. -/
import Derived.Test.YtfkaackhikbbkaaGreatDoorArDec
namespace Go.Proofs.YtfkaackhikbbkaaGreatDoor
open Go.RowKit Go.Lib Go.BigFrame
namespace AD
open OM TP TM TG TW TR AP AR FP

def a0 : Ar := ⟨[112], 3, [], []⟩
theorem a0_right : RightA a0 := ⟨by simp [a0], by decide, by decide, tree_nil, fun n hn => by simp [a0] at hn, rfl, fun s hs => by simp [a0] at hs⟩
theorem a0_fit : FitA a0 := ⟨(by decide : (3 : Int) < 9223372036854775808), fun s hs => by simp [a0] at hs⟩
theorem a0_at (w : World) : ArAt w a0 none 0 none := ⟨Wide.nil w, ⟨LayM.nil _ _, Nat.zero_le _⟩, by unfold maxLen; decide, a0_fit⟩
set_option maxRecDepth 100000 in
set_option maxHeartbeats 6400000 in
theorem awake_any (w : World) (he : Env w) : Calls Tryz.prog 9 #[] w fun e w' => e = .returned (.bool true) ∧ Below w.heap.size w w' := by
  have c1 := encode_any a0 none 0 none 0 w he (a0_at w)
  have e1 : encL a0 = (RP.packL (payL a0), 0) := by unfold encL; rw [if_pos ((right_iff a0).2 a0_right)]
  rw [e1] at c1
  obtain ⟨s, hs⟩ : ∃ s, RP.packL (payL a0) = s := ⟨_, rfl⟩
  have hsl : s.length ≤ 9223372036854775807 := by
    have := pay_len a0_right a0_fit
    rw [← hs, RP.pack_len]
    unfold RP.MaxP at this
    omega
  have hdec : decL s = (a0, 0) := by rw [← hs]; exact dec_enc a0_right a0_fit
  rw [hs] at c1
  have C2 : Hid (∀ W, Below w.heap.size w W → Calls Tryz.prog 21 #[txt s] W (DecPost s W)) := Lib.hid (fun W hW => decode_any s W (he.below hW) hsl)
  have HD := Lib.hid hdec
  unfold arVal txt at c1
  unfold txt at C2
  simp only [a0] at c1
  obtain ⟨S, hS⟩ : ∃ S : ByteArray, ⟨s.toArray⟩ = S := ⟨_, rfl⟩
  rw [hS] at c1 C2
  have C1 := Lib.hid c1
  clear c1 hs hsl hdec hS e1
  go_enter Tryz.func9, Tryz.ntmps9
  repeat (first | (go_at_call 15; fail) | go_skip | go_guarded | go_step | go_upon)
  refine C1.out.mono ?_
  rintro r w1 ⟨rfl, hb1⟩
  simp only []
  have B1 := Lib.hid hb1
  clear hb1
  repeat (first | (go_at_call 21; fail) | go_skip | go_guarded | go_step | go_upon)
  refine (C2.out w1 B1.out).mono ?_
  rintro r w2 ⟨vt, vs, rfl, ho1, ho2, hb2⟩
  simp only []
  rw [HD.out] at ho1 ho2
  obtain ⟨a1, c1, rfl, _⟩ := lay_own (ts := []) ho1
  obtain ⟨a2, c2, rfl, _⟩ := laym_own (l := []) ho2
  have B2 := Lib.hid (B1.out.trans (hb2.mono B1.out.size))
  rw [HD.out]
  have ep : txt a0.pair = .string ⟨#[112]⟩ := rfl
  have es : a0.serial = 3 := rfl
  rw [ep, es]
  clear ho1 ho2 hb2 ep es
  have B3 : Hid (Below w.heap.size w (w2.alloc (.cells #[.string ⟨#[112]⟩, .int .i64 3, .slice a1 0 c1, .slice a2 0 c2] 35))) := Lib.hid (B2.out.alloc B2.out.size _)
  repeat (first | go_skip | go_guarded | go_step | go_upon)
  go_ret
  exact ⟨rfl, B3.out⟩
end AD
end Go.Proofs.YtfkaackhikbbkaaGreatDoor
