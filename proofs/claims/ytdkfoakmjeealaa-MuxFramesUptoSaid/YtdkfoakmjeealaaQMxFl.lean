/- Layer 16: a flag read, by the program and by the document; a frame's bytes over lists. -/
import Derived.Test.YtdkfoakmjeealaaQMxRg
import Derived.Test.YtdkfoakmjeealaaQMxWref
import Derived.Test.YtdkfoakmjeealaaQMxPlain
set_option linter.all false
set_option maxRecDepth 100000
set_option maxHeartbeats 25600000
namespace Go.Proofs.Ytdkfoakmjeealaa
open Go.RowKit Go.Lib Go.BigFrame
namespace AP
open CP

def rFlag (r : Rd) : Bool × Rd :=
  if r.2 ≠ 0 then (false, r) else match r.1 with
    | [] => (false, [], 30)
    | b :: t => if 1 < b.toNat then (false, b :: t, 31) else (b == 1, t, 0)
end AP
namespace CR
open CP AP

def FPost (bk : Nat) (a : Bool × Rd) (w : World) (r : Ending) (w' : World) : Prop := r = .returned (.bool a.1) ∧ At bk a.2 w' ∧ FP.Out (· = bk) w w'
theorem flag_all (bk : Nat) (r : Rd) (w : World) (h : At bk r w) (hs : r.1.length ≤ maxLen) :
    Calls Try.prog 45 #[ptr bk] w (FPost bk (rFlag r) w) := by
  obtain ⟨l, f⟩ := r
  obtain ⟨s, hl, h⟩ := h
  simp only [] at hl h hs
  have hss : s.size ≤ maxLen := by rw [Lib.size_eq, hl]; exact hs
  by_cases hf : f = 0
  · subst hf
    cases l with
    | nil =>
      refine (flag_none bk s w h hl).mono ?_
      rintro r w' ⟨rfl, s', h1, h2, h3⟩
      exact ⟨rfl, ⟨s', by rw [h1, hl]; rfl, h2⟩, h3⟩
    | cons b t =>
      by_cases hb : 1 < b.toNat
      · have hR : rFlag (b :: t, 0) = (false, b :: t, 31) := by
          unfold rFlag
          rw [if_neg (by simp)]
          simp only
          rw [if_pos hb]
        rw [hR]
        refine (flag_big bk s b t w h hss hl hb).mono ?_
        rintro r w' ⟨rfl, s', h1, h2, h3⟩
        exact ⟨rfl, ⟨s', by rw [h1, hl], h2⟩, h3⟩
      · have hR : rFlag (b :: t, 0) = (b == 1, t, 0) := by
          unfold rFlag
          rw [if_neg (by simp)]
          simp only
          rw [if_neg hb]
        rw [hR]
        have hfl : s.data.toList = flagS (b == 1) ++ t := by
          rw [hl]
          by_cases h0 : b = 0
          · subst h0; rfl
          · have h1 : b = 1 := by
              apply UInt8.toNat_inj.1
              have : b.toNat ≠ 0 := fun e => h0 (UInt8.toNat_inj.1 e)
              have e1 : (1 : UInt8).toNat = 1 := rfl
              omega
            subst h1
            rfl
        refine (flag_ok bk s (b == 1) t w h hss hfl).mono ?_
        rintro r w' ⟨rfl, s', h1, h2, h3⟩
        exact ⟨rfl, ⟨s', h1, h2⟩, h3⟩
  · have hR : rFlag (l, f) = (false, l, f) := by
      unfold rFlag
      rw [if_pos hf]
    rw [hR]
    refine (flag_stop bk s f w h (by omega)).mono ?_
    rintro r w' ⟨rfl, s', h1, h2, h3⟩
    exact ⟨rfl, ⟨s', by rw [h1, hl], h2⟩, h3⟩
end CR
namespace RR
open CP AP

def FPost (bk : Nat) (a : Bool × Rd) (w : World) (r : Ending) (w' : World) : Prop := r = .returned (.bool a.1) ∧ At bk a.2 w' ∧ FP.Out (· = bk) w w'
set_option maxRecDepth 100000 in
set_option maxHeartbeats 3200000 in
theorem rflag_all (bk : Nat) (r : Rd) (w : World) (h : At bk r w) : Calls Try.prog 50 #[.pointer (some ⟨bk, 0, none⟩)] w (FPost bk (rFlag r) w) := by
  obtain ⟨l, f⟩ := r
  obtain ⟨s, a, hat, hl, ha, hs⟩ := h
  simp only [] at hat hl
  have c0 := hat.c0
  have c1 := hat.c1
  have c2 := hat.c2
  have f1 := hat.f1
  have f2 := hat.f2
  have HA := Lib.hid hat
  have HL := Lib.hid hl
  have HA2 := Lib.hid ha
  have HS2 := Lib.hid hs
  have hll := len_left hl ha
  obtain ⟨n, hn⟩ : ∃ n, s.size = n := ⟨_, rfl⟩
  rw [hn] at hll hs ha
  have hnz : (n : Int) ≤ 140737488355328 := by omega
  by_cases hf : f = 0
  · subst hf
    cases l with
    | nil =>
      have hz : ¬ (a : Int) < n := by simp at hll; omega
      have hz2 : (n : Int) ≤ a := by omega
      clear hat hl
      go_enter Try.func50, Try.ntmps50
      repeat (first | go_skip | go_guarded | go_step | go_upon)
      go_quiet (fail)
      rename_i nq
      have HA9 := Lib.hid (show RefAt bk s a (0 : Nat) (w.drewN nq) from ⟨HA.out.c0, HA.out.c1, HA.out.c2, HA.out.f1, HA.out.f2, HA.out.lt⟩)
      have HO9 : Hid (FP.Out (· = bk) w (w.drewN nq)) := Lib.hid ⟨rfl, rfl, rfl, Nat.le_refl _, fun _ _ _ => rfl⟩
      clear c0 c1 c2 f1 f2
      generalize w.drewN nq = w9 at HA9 HO9 ⊢
      have c2 := HA9.out.c2
      have f2 := HA9.out.f2
      repeat (first | go_skip | go_guarded | go_step | go_upon)
      go_ret
      exact ⟨rfl, ⟨s, a, HA9.out.set2 30, HL.out, HA2.out, HS2.out⟩, HO9.out.setCell (p := ⟨bk, 2, none⟩) (fun _ => rfl) _⟩
    | cons b t =>
      have hz : (a : Int) < n := by simp at hll; omega
      have hz2 : ¬ (n : Int) ≤ a := by omega
      obtain ⟨x, hx, hx2, i0⟩ := TR.byte_at s a (by omega) (a : Int) rfl
      have hxb : s.data.toList.getD a 0 = b := by
        have := congrArg (fun l => l[0]?) hl
        simp only [List.getElem?_drop, Nat.add_zero, List.getElem?_cons_zero] at this
        rw [List.getD_eq_getElem?_getD, this]
        rfl
      rw [hxb] at hx
      have hdt : s.data.toList.drop (a + 1) = t := by
        rw [← List.drop_drop, hl]
        rfl
      have HDt := Lib.hid hdt
      by_cases hb : 1 < b.toNat
      · have hR : rFlag (b :: t, 0) = (false, b :: t, 31) := by
          unfold rFlag
          rw [if_neg (by simp)]
          simp only
          rw [if_pos hb]
        have hxz : (1 : Int) < x := by omega
        rw [hR]
        clear hat hl hx hxb hdt hR hb
        go_enter Try.func50, Try.ntmps50
        repeat (first | go_skip | go_guarded | go_step | go_upon)
        go_quiet (fail)
        rename_i nq
        have HA9 := Lib.hid (show RefAt bk s a (0 : Nat) (w.drewN nq) from ⟨HA.out.c0, HA.out.c1, HA.out.c2, HA.out.f1, HA.out.f2, HA.out.lt⟩)
        have HO9 : Hid (FP.Out (· = bk) w (w.drewN nq)) := Lib.hid ⟨rfl, rfl, rfl, Nat.le_refl _, fun _ _ _ => rfl⟩
        clear c0 c1 c2 f1 f2
        generalize w.drewN nq = w9 at HA9 HO9 ⊢
        have c0 := HA9.out.c0
        have c1 := HA9.out.c1
        repeat (first | go_skip | go_guarded | go_step | go_upon)
        have r0 := cell_regrown c0
        have r1 := cell_regrown c1
        with_reducible refine wp_region_quiet_below (by kernel_rfl) (by kernel_rfl) ?_
        repeat (go_big_quiet_step (fail))
        refine wpQuiet_nil ?_
        intro _ hw'
        obtain ⟨⟨dq, osq⟩, hw''⟩ := hw'
        subst hw''
        have W5 : Below w9.heap.size w9 (Go.Sort.grow (redrawn w9 dq) osq) := below_regrown w9 dq osq
        have HA8 := Lib.hid (show RefAt bk s a (0 : Nat) (Go.Sort.grow (redrawn w9 dq) osq) from HA9.out.out (FP.Out.of_below W5) (fun h => by have := HA9.out.lt; omega))
        have HO8 : Hid (FP.Out (· = bk) w (Go.Sort.grow (redrawn w9 dq) osq)) := Lib.hid (HO9.out.thenBelow W5)
        clear c0 c1 r0 r1 W5
        generalize Go.Sort.grow (redrawn w9 dq) osq = w8 at HA8 HO8 ⊢
        have c2 := HA8.out.c2
        have f2 := HA8.out.f2
        repeat (first | go_skip | go_guarded | go_step | go_upon)
        go_ret
        exact ⟨rfl, ⟨s, a, HA8.out.set2 31, HL.out, HA2.out, HS2.out⟩, HO8.out.setCell (p := ⟨bk, 2, none⟩) (fun _ => rfl) _⟩
      · have hR : rFlag (b :: t, 0) = (b == 1, t, 0) := by
          unfold rFlag
          rw [if_neg (by simp)]
          simp only
          rw [if_neg hb]
        have hxz : ¬ (1 : Int) < x := by omega
        have hx1 : ((x : Int) == 1) = (b == 1) := by
          by_cases e : b = 1
          · subst e
            have : x = 1 := by rw [← hx]; rfl
            subst this
            rfl
          · have h2 : x ≠ 1 := fun e2 => e (UInt8.toNat_inj.1 (by rw [hx, e2]; rfl))
            rw [beq_eq_false_iff_ne.2 (show (x : Int) ≠ 1 by omega), beq_eq_false_iff_ne.2 e]
        obtain ⟨q, hq⟩ : ∃ q, (b == 1) = q := ⟨_, rfl⟩
        rw [hq] at hx1
        rw [hR, hq]
        have hsz : (a : Int) + 1 ≤ n := by omega
        have ha1 : (a : Int) + 1 - 1 = a := by omega
        clear hat hl hx hxb hdt hR hb hq
        go_enter Try.func50, Try.ntmps50
        repeat (first | go_skip | go_guarded | go_step | go_upon)
        go_quiet (fail)
        rename_i nq
        have HA9 := Lib.hid (show RefAt bk s a (0 : Nat) (w.drewN nq) from ⟨HA.out.c0, HA.out.c1, HA.out.c2, HA.out.f1, HA.out.f2, HA.out.lt⟩)
        have HO9 : Hid (FP.Out (· = bk) w (w.drewN nq)) := Lib.hid ⟨rfl, rfl, rfl, Nat.le_refl _, fun _ _ _ => rfl⟩
        clear c0 c1 c2 f1 f2
        generalize w.drewN nq = w9 at HA9 HO9 ⊢
        have c0 := HA9.out.c0
        have c1 := HA9.out.c1
        repeat (first | go_skip | go_guarded | go_step | go_upon)
        have r0 := cell_regrown c0
        have r1 := cell_regrown c1
        with_reducible refine wp_region_quiet_below (by kernel_rfl) (by kernel_rfl) ?_
        repeat (go_big_quiet_step (fail))
        refine wpQuiet_nil ?_
        intro _ hw'
        obtain ⟨⟨dq, osq⟩, hw''⟩ := hw'
        subst hw''
        have W5 : Below w9.heap.size w9 (Go.Sort.grow (redrawn w9 dq) osq) := below_regrown w9 dq osq
        have HA8 := Lib.hid (show RefAt bk s a (0 : Nat) (Go.Sort.grow (redrawn w9 dq) osq) from HA9.out.out (FP.Out.of_below W5) (fun h => by have := HA9.out.lt; omega))
        have HO8 : Hid (FP.Out (· = bk) w (Go.Sort.grow (redrawn w9 dq) osq)) := Lib.hid (HO9.out.thenBelow W5)
        clear c0 c1 r0 r1 W5
        generalize Go.Sort.grow (redrawn w9 dq) osq = w8 at HA8 HO8 ⊢
        have c0 := HA8.out.c0
        have c1 := HA8.out.c1
        have f1 := HA8.out.f1
        repeat (first | go_skip | go_guarded | go_step | go_upon)
        have HA7 : Hid (RefAt bk s (a + 1) (0 : Nat) (w8.setCell ⟨bk, 1, none⟩ (.int .i64 ((a : Int) + 1)))) := Lib.hid (HA8.out.set1 (a + 1))
        have HO7 : Hid (FP.Out (· = bk) w (w8.setCell ⟨bk, 1, none⟩ (.int .i64 ((a : Int) + 1)))) := Lib.hid (HO8.out.setCell (p := ⟨bk, 1, none⟩) (fun _ => rfl) _)
        clear c0 c1 f1
        generalize w8.setCell ⟨bk, 1, none⟩ (.int .i64 ((a : Int) + 1)) = w7 at HA7 HO7 ⊢
        have c0 := cell_regrown HA7.out.c0
        have c1 := cell_regrown (show w7.cell? ⟨bk, 1, none⟩ = some (.int .i64 ((a : Int) + 1)) from HA7.out.c1)
        with_reducible refine wp_region_quiet_below (by kernel_rfl) (by kernel_rfl) ?_
        repeat (go_big_quiet_step (fail))
        refine wpQuiet_nil ?_
        intro _ hw'
        obtain ⟨⟨dq, osq⟩, hw''⟩ := hw'
        subst hw''
        have W5 : Below w7.heap.size w7 (Go.Sort.grow (redrawn w7 dq) osq) := below_regrown w7 dq osq
        have HA6 := Lib.hid (show RefAt bk s (a + 1) (0 : Nat) (Go.Sort.grow (redrawn w7 dq) osq) from HA7.out.out (FP.Out.of_below W5) (fun h => by have := HA7.out.lt; omega))
        have HO6 : Hid (FP.Out (· = bk) w (Go.Sort.grow (redrawn w7 dq) osq)) := Lib.hid (HO7.out.thenBelow W5)
        clear c0 c1 W5
        generalize Go.Sort.grow (redrawn w7 dq) osq = w6 at HA6 HO6 ⊢
        repeat (first | go_skip | go_guarded | go_step | go_upon)
        go_ret
        exact ⟨rfl, ⟨s, a + 1, HA6.out, HDt.out, by omega, HS2.out⟩, HO6.out⟩
  · have hfz : ((f : Int) != 0) = true := by simpa using hf
    have hR : rFlag (l, f) = (false, l, f) := by unfold rFlag; rw [if_pos hf]
    rw [hR]
    clear hR hf hat hl
    go_enter Try.func50, Try.ntmps50
    repeat (first | go_skip | go_guarded | go_step | go_upon)
    go_ret
    exact ⟨rfl, ⟨s, a, HA.out, HL.out, HA2.out, HS2.out⟩, FP.Out.refl _ _⟩
end RR
end Go.Proofs.Ytdkfoakmjeealaa
