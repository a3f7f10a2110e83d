/- Layer 9: the contract of the program's Encode. -/
import Derived.Test.YtfkaackhikbbkaaGreatDoorMg7
import Derived.Test.YtfkaackhikbbkaaGreatDoorArChk
import Derived.Test.YtfkaackhikbbkaaGreatDoorArArch
import Derived.Test.YtfkaackhikbbkaaGreatDoorArStr
namespace Go.Proofs.YtfkaackhikbbkaaGreatDoor
open Go.RowKit Go.Lib Go.BigFrame
namespace AR
open OM TP TM TG TW AP TR

/-- What is asked of memory: Go's tables, and the check sum's. -/
structure Env (w : World) : Prop where
  nf : NF.Env w
  hc : HC.Env w
theorem Env.below {w w' : World} (h : Env w) (hb : Below w.heap.size w w') : Env w' := ⟨h.nf.below hb, h.hc.below hb⟩
theorem new_has (w : World) (B : Nat) (hB : B ≤ w.heap.size) : AW.Has B w.heap.size [] (w.alloc (.cells #[.pointer none, .slice none 0 0] 61)) :=
  .inl ⟨hB, .slice none 0 0, heap_alloc_new w _, World.ownsRowF_of (World.ownsRow_nil _ _ _ _), by simp [Value.ownBlock]⟩
theorem pack_ok {a : Ar} (h : RightA a) (hf : FitA a) : RF.packV (payL a) = .returned (.tuple #[txt (RP.packL (payL a)), .int .i64 0]) := by
  have hl := pay_len h hf
  unfold RF.packV RQ.packT RQ.packE
  rw [if_pos hl, if_pos hl]
  rfl
theorem pay_ne (a : Ar) : payL a ≠ [] := by
  unfold payL CP.textS
  intro e
  have := congrArg List.length e
  simp at this
  exact CP.nm_ne _ this.1
set_option maxRecDepth 100000 in
set_option maxHeartbeats 6400000 in
theorem encode_any (a : Ar) (ao : Option Addr) (ca : Nat) (so : Option Addr) (sc : Nat) (w : World) (he : Env w) (h : ArAt w a ao ca so) :
    Calls Tryz.prog 15 #[arVal a ao ca so sc] w fun r w' => r = .returned (.tuple #[txt (encL a).1, .int .i64 ((encL a).2 : Nat)]) ∧ Below w.heap.size w w' := by
  have CR : Hid (∀ W, Below w.heap.size w W → Calls Tryz.prog 34 #[arVal a ao ca so sc] W fun r w' => r = .returned (.bool (rightA a)) ∧ Below W.heap.size W w') := Lib.hid (fun W hW => right_any a ao ca so sc W (he.nf.below hW) (h.below hW))
  have CA : Hid (RightA a → ∀ (W0 : World) (b : Nat) (W : World), Below w.heap.size w W0 → Below W0.heap.size W0 W → AW.Has W0.heap.size b [] W → Calls Tryz.prog 35 #[.pointer (some ⟨b, 0, none⟩), arVal a ao ca so sc] W (AW.WPost W0.heap.size b (payL a) W)) := Lib.hid (fun hr W0 b W h0 h1 h2 =>
    AW.archive_any W0 b a ao ca so sc W hr h.fit (h.tree.lay.below h0) (h.stamps.lay.below h0) h1 h2)
  have HFit := Lib.hid h.fit
  have HE := Lib.hid he
  unfold arVal txt at CR CA ⊢
  obtain ⟨P, hP⟩ : ∃ P : ByteArray, ⟨a.pair.toArray⟩ = P := ⟨_, rfl⟩
  obtain ⟨n, hn⟩ : ∃ n, a.tree.length = n := ⟨_, rfl⟩
  obtain ⟨m, hm⟩ : ∃ n, a.stamps.length = n := ⟨_, rfl⟩
  obtain ⟨s, hs⟩ : ∃ n, a.serial = n := ⟨_, rfl⟩
  obtain ⟨w1, hw1⟩ : ∃ w1, w.alloc (.cells #[.string P, .int .i64 s, .slice ao n ca, .slice so m sc] 35) = w1 := ⟨_, rfl⟩
  have b1 : Below w.heap.size w w1 := by rw [← hw1]; exact (Below.refl _ _).alloc (Nat.le_refl _) _
  have r1 : w1.heap[w.heap.size]? = some (.cells #[.string P, .int .i64 s, .slice ao n ca, .slice so m sc] 35 (0, 0)) := by rw [← hw1]; exact heap_alloc_new w _
  obtain ⟨x0, x1, x2, x3⟩ := box4 w (.string P) (.int .i64 s) (.slice ao n ca) (.slice so m sc) 35
  rw [hw1] at x0 x1 x2 x3
  have B1 := Lib.hid b1
  have R1 := Lib.hid r1
  have hlt1 : w.heap.size < w1.heap.size := by rw [← hw1]; simp
  rw [hP, hn, hm, hs] at CR CA
  rw [hP, hn, hm, hs]
  cases hr : rightA a with
  | false =>
    have HV : Hid (encL a = ([], 90)) := Lib.hid (by unfold encL; rw [hr]; rfl)
    rw [hr] at CR
    clear hP hn hm hs hr h he b1 r1
    go_enter Tryz.func15, Tryz.ntmps15
    repeat (first | (go_at_call 34; refine (CR.out _ B1.out).mono ?_; rintro r w2 ⟨rfl, hb⟩; simp only []; have B2 := Lib.hid (Below.trans B1.out (hb.mono B1.out.size)); clear hb) | go_skip | go_guarded | go_step | go_upon)
    go_ret2
    exact ⟨by rw [HV.out]; rfl, B2.out⟩
  | true =>
    have hR := (right_iff a).1 hr
    have HR := Lib.hid hR
    have HV : Hid (encL a = (RP.packL (payL a), 0)) := Lib.hid (by unfold encL; rw [hr]; rfl)
    rw [hr] at CR
    clear hP hn hm hs hr h he b1 r1 hR
    go_enter Tryz.func15, Tryz.ntmps15
    repeat (first | (go_at_call 34; fail) | go_skip | go_guarded | go_step | go_upon)
    refine (CR.out _ B1.out).mono ?_
    rintro r w2 ⟨rfl, hb⟩
    simp only []
    have r2 := (hb.block _ hlt1).trans R1.out
    have B2 := Lib.hid (Below.trans B1.out (hb.mono B1.out.size))
    have hlt2 : w.heap.size < w2.heap.size := Nat.lt_of_lt_of_le hlt1 hb.size
    have hHas := new_has w2 w2.heap.size (Nat.le_refl _)
    obtain ⟨w3, hw3⟩ : ∃ w3, w2.alloc (.cells #[.pointer none, .slice none 0 0] 61) = w3 := ⟨_, rfl⟩
    have b3 : Below w2.heap.size w2 w3 := by rw [← hw3]; exact (Below.refl _ _).alloc (Nat.le_refl _) _
    rw [hw3] at hHas
    have r3 := (b3.block _ hlt2).trans r2
    have y0 : w3.cell? ⟨w.heap.size, 0, none⟩ = some (.string P) := by rw [cell_of_row _ _ 0 _ _ _ r3]; rfl
    have y1 : w3.cell? ⟨w.heap.size, 1, none⟩ = some (.int .i64 s) := by rw [cell_of_row _ _ 1 _ _ _ r3]; rfl
    have y2 : w3.cell? ⟨w.heap.size, 2, none⟩ = some (.slice ao n ca) := by rw [cell_of_row _ _ 2 _ _ _ r3]; rfl
    have y3 : w3.cell? ⟨w.heap.size, 3, none⟩ = some (.slice so m sc) := by rw [cell_of_row _ _ 3 _ _ _ r3]; rfl
    have HB3 := Lib.hid b3
    have HHas := Lib.hid hHas
    clear hb r2 hHas b3 r3 x0 x1 x2 x3
    repeat (first | (go_at_call 35; fail) | go_skip | go_guarded | go_step | go_upon)
    refine (CA.out HR.out w2 w2.heap.size w3 B2.out HB3.out HHas.out).mono ?_
    rintro r w4 ⟨rfl, hw4⟩
    simp only []
    have HW4 := Lib.hid hw4
    clear hw4 y0 y1 y2 y3
    repeat (first | (go_at_call 37; fail) | go_skip | go_guarded | go_step | go_upon)
    refine (AW.string_any w2.heap.size w2.heap.size (payL a) w4 HW4.out.has (pay_ne a)).mono ?_
    rintro r w5 ⟨rfl, hb5⟩
    simp only []
    have B5 : Hid (Below w.heap.size w w5) := Lib.hid (B2.out.trans ((HB3.out.trans (HW4.out.below.trans hb5)).mono B2.out.size))
    have CP2 := RF.pack_any (payL a) w5 (HE.out.below B5.out).hc (by have := pay_len HR.out HFit.out; unfold RP.MaxP at this; unfold maxLen; omega)
    rw [pack_ok HR.out HFit.out] at CP2
    unfold RQ.txt txt at CP2
    have CP3 := Lib.hid CP2
    obtain ⟨Q, hQ⟩ : ∃ Q : ByteArray, ⟨(payL a).toArray⟩ = Q := ⟨_, rfl⟩
    obtain ⟨R, hR⟩ : ∃ Q : ByteArray, ⟨(RP.packL (payL a)).toArray⟩ = Q := ⟨_, rfl⟩
    have HV2 : Hid (encL a = (RP.packL (payL a), 0) ∧ (⟨(RP.packL (payL a)).toArray⟩ : ByteArray) = R) := Lib.hid ⟨HV.out, hR⟩
    rw [hQ, hR] at CP3
    rw [hQ]
    clear hb5 CP2 hQ hR
    repeat (first | (go_at_call 36; refine CP3.out.mono ?_; rintro r w6 ⟨rfl, hb⟩; simp only []; have B6 := Lib.hid (Below.trans B5.out (hb.mono B5.out.size)); clear hb) | go_skip | go_guarded | go_step | go_upon)
    go_ret2
    exact ⟨by rw [HV2.out.1]; simp only []; rw [HV2.out.2]; rfl, B6.out⟩
end AR
end Go.Proofs.YtfkaackhikbbkaaGreatDoor
