/- Layer 9: the contract of the document's Match. -/
import Derived.Test.YtiggdojppfblkaaGreatDoorMg3
import Derived.Test.YtiggdojppfblkaaGreatDoorArRS
namespace Go.Proofs.YtiggdojppfblkaaGreatDoor
open Go.RowKit Go.Lib Go.BigFrame
namespace AR
open OM TP TM TG TW AP TR

/-- What Check answers. -/
def ez : Bool → Int
  | true => 0
  | false => 90
theorem ez_check (a : Ar) : ((checkA a : Nat) : Int) = ez (rightA a) := by
  unfold checkA
  cases rightA a <;> rfl
set_option maxRecDepth 100000 in
set_option maxHeartbeats 6400000 in
theorem rmatch9_any (a b : Ar) (ao : Option Addr) (ca : Nat) (so : Option Addr) (sc : Nat) (bo : Option Addr) (cb : Nat) (uo : Option Addr) (tc : Nat) (w : World) (h : ArAt w a ao ca so) (k : ArAt w b bo cb uo) (hsa : Small a.tree) (hsb : Small b.tree) :
    Calls Tryz.prog 20 #[arVal a ao ca so sc, arVal b bo cb uo tc] w fun r w' => r = .returned (.bool (matchA a b)) ∧ Below w.heap.size w w' := by
  have CR : Hid (∀ W, Below w.heap.size w W → Calls Tryz.prog 18 #[arVal a ao ca so sc] W fun r w' => r = .returned (.int .i64 (ez (rightA a))) ∧ Below W.heap.size W w') := Lib.hid (fun W hW => ez_check a ▸ rcheck9_any a ao ca so sc W (h.below hW) hsa)
  have CS : Hid (∀ W, Below w.heap.size w W → Calls Tryz.prog 18 #[arVal b bo cb uo tc] W fun r w' => r = .returned (.int .i64 (ez (rightA b))) ∧ Below W.heap.size W w') := Lib.hid (fun W hW => ez_check b ▸ rcheck9_any b bo cb uo tc W (k.below hW) hsb)
  have CT : Hid (∀ W, Below w.heap.size w W → Calls Tryz.prog 12 #[.slice ao a.tree.length ca, .slice bo b.tree.length cb] W fun r w' => r = .returned (.bool (decide (a.tree = b.tree))) ∧ Below W.heap.size W w') := Lib.hid (fun W hW => rsame_any ao bo ca cb a.tree b.tree W (h.tree.lay.below hW) (k.tree.lay.below hW) h.tree.max k.tree.max)
  unfold arVal txt at CR CS ⊢
  obtain ⟨P, hP⟩ : ∃ P : ByteArray, ⟨a.pair.toArray⟩ = P := ⟨_, rfl⟩
  obtain ⟨Q, hQ⟩ : ∃ P : ByteArray, ⟨b.pair.toArray⟩ = P := ⟨_, rfl⟩
  have hPQ : (P.toList == Q.toList) = decide (a.pair = b.pair) := by rw [← hP, ← hQ]; exact str_eq _ _
  have hst : (a.serial == b.serial) = decide (a.serial = b.serial) := by rw [Bool.eq_iff_iff]; simp
  obtain ⟨n, hn⟩ : ∃ n, a.tree.length = n := ⟨_, rfl⟩
  obtain ⟨m, hm⟩ : ∃ n, a.stamps.length = n := ⟨_, rfl⟩
  obtain ⟨s, hs⟩ : ∃ n, a.serial = n := ⟨_, rfl⟩
  obtain ⟨n', hn'⟩ : ∃ n, b.tree.length = n := ⟨_, rfl⟩
  obtain ⟨m', hm'⟩ : ∃ n, b.stamps.length = n := ⟨_, rfl⟩
  obtain ⟨s', hs'⟩ : ∃ n, b.serial = n := ⟨_, rfl⟩
  obtain ⟨x1, hx1⟩ : ∃ x, rightA a = x := ⟨_, rfl⟩
  obtain ⟨x2, hx2⟩ : ∃ x, rightA b = x := ⟨_, rfl⟩
  obtain ⟨x3, hx3⟩ : ∃ x, decide (a.pair = b.pair) = x := ⟨_, rfl⟩
  obtain ⟨x4, hx4⟩ : ∃ x, decide (a.serial = b.serial) = x := ⟨_, rfl⟩
  obtain ⟨x5, hx5⟩ : ∃ x, decide (a.tree = b.tree) = x := ⟨_, rfl⟩
  have HV : Hid (matchA a b = (x1 && x2 && x3 && x4 && x5)) := Lib.hid (by unfold matchA; rw [hx1, hx2, hx3, hx4, hx5])
  rw [hP, hn, hm, hs, hx1] at CR
  rw [hQ, hn', hm', hs', hx2] at CS
  rw [hn, hn', hx5] at CT
  rw [hx3] at hPQ
  rw [hx4, hs, hs'] at hst
  rw [hP, hQ, hn, hm, hs, hn', hm', hs']
  obtain ⟨w1, hw1⟩ : ∃ w1, w.alloc (.cells #[.string P, .int .i64 s, .slice ao n ca, .slice so m sc] 35) = w1 := ⟨_, rfl⟩
  have b1 : Below w.heap.size w w1 := by rw [← hw1]; exact (Below.refl _ _).alloc (Nat.le_refl _) _
  obtain ⟨r0, r1, r2, r3⟩ := box4 w (.string P) (.int .i64 s) (.slice ao n ca) (.slice so m sc) 35
  rw [hw1] at r0 r1 r2 r3
  have hl0 : w.heap.size < w1.heap.size := by rw [← hw1]; simp
  obtain ⟨w2, hw2⟩ : ∃ w2, w1.alloc (.cells #[.string Q, .int .i64 s', .slice bo n' cb, .slice uo m' tc] 35) = w2 := ⟨_, rfl⟩
  have b2 : Below w1.heap.size w1 w2 := by rw [← hw2]; exact (Below.refl _ _).alloc (Nat.le_refl _) _
  obtain ⟨t0, t1, t2, t3⟩ := box4 w1 (.string Q) (.int .i64 s') (.slice bo n' cb) (.slice uo m' tc) 35
  rw [hw2] at t0 t1 t2 t3
  have hl2 : w1.heap.size < w2.heap.size := by rw [← hw2]; simp
  have hl1 : w.heap.size < w2.heap.size := Nat.lt_trans hl0 hl2
  have s0 := (b2.cell (p := ⟨w.heap.size, 0, none⟩) hl0).trans r0
  have s1 := (b2.cell (p := ⟨w.heap.size, 1, none⟩) hl0).trans r1
  have s2 := (b2.cell (p := ⟨w.heap.size, 2, none⟩) hl0).trans r2
  have s3 := (b2.cell (p := ⟨w.heap.size, 3, none⟩) hl0).trans r3
  have B0 := Lib.hid (Below.trans b1 (b2.mono b1.size))
  clear hP hQ hn hm hs hn' hm' hs' hx1 hx2 hx3 hx4 hx5 h k hsa hsb b1 b2
  cases x1 with
  | false =>
    simp only [ez] at CR
    go_enter Tryz.func20, Tryz.ntmps20
    repeat (first | (go_at_call 18; fail) | go_skip | go_guarded | go_step | go_upon)
    refine (CR.out _ B0.out).mono ?_
    rintro r w3 ⟨rfl, hb⟩
    simp only []
    have B3 := Lib.hid (Below.trans B0.out (hb.mono B0.out.size))
    have u0 := (hb.cell (p := ⟨w1.heap.size, 0, none⟩) hl2).trans t0
    have u1 := (hb.cell (p := ⟨w1.heap.size, 1, none⟩) hl2).trans t1
    have u2 := (hb.cell (p := ⟨w1.heap.size, 2, none⟩) hl2).trans t2
    have u3 := (hb.cell (p := ⟨w1.heap.size, 3, none⟩) hl2).trans t3
    have v0 := (hb.cell (p := ⟨w.heap.size, 0, none⟩) hl1).trans s0
    have v1 := (hb.cell (p := ⟨w.heap.size, 1, none⟩) hl1).trans s1
    have v2 := (hb.cell (p := ⟨w.heap.size, 2, none⟩) hl1).trans s2
    have hl1' := Nat.lt_of_lt_of_le hl1 hb.size
    have hl2' := Nat.lt_of_lt_of_le hl2 hb.size
    clear hb s0 s1 s2 s3 t0 t1 t2 t3 r0 r1 r2 r3
    repeat (first | go_skip | go_guarded | go_step | go_upon)
    go_ret
    exact ⟨by rw [HV.out]; first | rfl | simp, B3.out⟩
  | true =>
    simp only [ez] at CR
    cases x2 with
    | false =>
      simp only [ez] at CS
      go_enter Tryz.func20, Tryz.ntmps20
      repeat (first | (go_at_call 18; fail) | go_skip | go_guarded | go_step | go_upon)
      refine (CR.out _ B0.out).mono ?_
      rintro r w3 ⟨rfl, hb⟩
      simp only []
      have B3 := Lib.hid (Below.trans B0.out (hb.mono B0.out.size))
      have u0 := (hb.cell (p := ⟨w1.heap.size, 0, none⟩) hl2).trans t0
      have u1 := (hb.cell (p := ⟨w1.heap.size, 1, none⟩) hl2).trans t1
      have u2 := (hb.cell (p := ⟨w1.heap.size, 2, none⟩) hl2).trans t2
      have u3 := (hb.cell (p := ⟨w1.heap.size, 3, none⟩) hl2).trans t3
      have v0 := (hb.cell (p := ⟨w.heap.size, 0, none⟩) hl1).trans s0
      have v1 := (hb.cell (p := ⟨w.heap.size, 1, none⟩) hl1).trans s1
      have v2 := (hb.cell (p := ⟨w.heap.size, 2, none⟩) hl1).trans s2
      have hl1' := Nat.lt_of_lt_of_le hl1 hb.size
      have hl2' := Nat.lt_of_lt_of_le hl2 hb.size
      clear hb s0 s1 s2 s3 t0 t1 t2 t3 r0 r1 r2 r3
      repeat (first | (go_at_call 18; fail) | go_skip | go_guarded | go_step | go_upon)
      refine (CS.out _ B3.out).mono ?_
      rintro r w4 ⟨rfl, hb⟩
      simp only []
      have B4 := Lib.hid (Below.trans B3.out (hb.mono B3.out.size))
      have p0 := (hb.cell (p := ⟨w1.heap.size, 0, none⟩) hl2').trans u0
      have p1 := (hb.cell (p := ⟨w1.heap.size, 1, none⟩) hl2').trans u1
      have p2 := (hb.cell (p := ⟨w1.heap.size, 2, none⟩) hl2').trans u2
      have q0 := (hb.cell (p := ⟨w.heap.size, 0, none⟩) hl1').trans v0
      have q1 := (hb.cell (p := ⟨w.heap.size, 1, none⟩) hl1').trans v1
      have q2 := (hb.cell (p := ⟨w.heap.size, 2, none⟩) hl1').trans v2
      clear hb u0 u1 u2 u3 v0 v1 v2
      repeat (first | go_skip | go_guarded | go_step | go_upon)
      go_ret
      exact ⟨by rw [HV.out]; first | rfl | simp, B4.out⟩
    | true =>
      simp only [ez] at CS
      cases x3 with
      | false =>
        go_enter Tryz.func20, Tryz.ntmps20
        repeat (first | (go_at_call 18; fail) | go_skip | go_guarded | go_step | go_upon)
        refine (CR.out _ B0.out).mono ?_
        rintro r w3 ⟨rfl, hb⟩
        simp only []
        have B3 := Lib.hid (Below.trans B0.out (hb.mono B0.out.size))
        have u0 := (hb.cell (p := ⟨w1.heap.size, 0, none⟩) hl2).trans t0
        have u1 := (hb.cell (p := ⟨w1.heap.size, 1, none⟩) hl2).trans t1
        have u2 := (hb.cell (p := ⟨w1.heap.size, 2, none⟩) hl2).trans t2
        have u3 := (hb.cell (p := ⟨w1.heap.size, 3, none⟩) hl2).trans t3
        have v0 := (hb.cell (p := ⟨w.heap.size, 0, none⟩) hl1).trans s0
        have v1 := (hb.cell (p := ⟨w.heap.size, 1, none⟩) hl1).trans s1
        have v2 := (hb.cell (p := ⟨w.heap.size, 2, none⟩) hl1).trans s2
        have hl1' := Nat.lt_of_lt_of_le hl1 hb.size
        have hl2' := Nat.lt_of_lt_of_le hl2 hb.size
        clear hb s0 s1 s2 s3 t0 t1 t2 t3 r0 r1 r2 r3
        repeat (first | (go_at_call 18; fail) | go_skip | go_guarded | go_step | go_upon)
        refine (CS.out _ B3.out).mono ?_
        rintro r w4 ⟨rfl, hb⟩
        simp only []
        have B4 := Lib.hid (Below.trans B3.out (hb.mono B3.out.size))
        have p0 := (hb.cell (p := ⟨w1.heap.size, 0, none⟩) hl2').trans u0
        have p1 := (hb.cell (p := ⟨w1.heap.size, 1, none⟩) hl2').trans u1
        have p2 := (hb.cell (p := ⟨w1.heap.size, 2, none⟩) hl2').trans u2
        have q0 := (hb.cell (p := ⟨w.heap.size, 0, none⟩) hl1').trans v0
        have q1 := (hb.cell (p := ⟨w.heap.size, 1, none⟩) hl1').trans v1
        have q2 := (hb.cell (p := ⟨w.heap.size, 2, none⟩) hl1').trans v2
        clear hb u0 u1 u2 u3 v0 v1 v2
        repeat (first | go_skip | go_guarded | go_step | go_upon)
        go_ret
        exact ⟨by rw [HV.out]; first | rfl | simp, B4.out⟩
      | true =>
        cases x4 with
        | false =>
          go_enter Tryz.func20, Tryz.ntmps20
          repeat (first | (go_at_call 18; fail) | go_skip | go_guarded | go_step | go_upon)
          refine (CR.out _ B0.out).mono ?_
          rintro r w3 ⟨rfl, hb⟩
          simp only []
          have B3 := Lib.hid (Below.trans B0.out (hb.mono B0.out.size))
          have u0 := (hb.cell (p := ⟨w1.heap.size, 0, none⟩) hl2).trans t0
          have u1 := (hb.cell (p := ⟨w1.heap.size, 1, none⟩) hl2).trans t1
          have u2 := (hb.cell (p := ⟨w1.heap.size, 2, none⟩) hl2).trans t2
          have u3 := (hb.cell (p := ⟨w1.heap.size, 3, none⟩) hl2).trans t3
          have v0 := (hb.cell (p := ⟨w.heap.size, 0, none⟩) hl1).trans s0
          have v1 := (hb.cell (p := ⟨w.heap.size, 1, none⟩) hl1).trans s1
          have v2 := (hb.cell (p := ⟨w.heap.size, 2, none⟩) hl1).trans s2
          have hl1' := Nat.lt_of_lt_of_le hl1 hb.size
          have hl2' := Nat.lt_of_lt_of_le hl2 hb.size
          clear hb s0 s1 s2 s3 t0 t1 t2 t3 r0 r1 r2 r3
          repeat (first | (go_at_call 18; fail) | go_skip | go_guarded | go_step | go_upon)
          refine (CS.out _ B3.out).mono ?_
          rintro r w4 ⟨rfl, hb⟩
          simp only []
          have B4 := Lib.hid (Below.trans B3.out (hb.mono B3.out.size))
          have p0 := (hb.cell (p := ⟨w1.heap.size, 0, none⟩) hl2').trans u0
          have p1 := (hb.cell (p := ⟨w1.heap.size, 1, none⟩) hl2').trans u1
          have p2 := (hb.cell (p := ⟨w1.heap.size, 2, none⟩) hl2').trans u2
          have q0 := (hb.cell (p := ⟨w.heap.size, 0, none⟩) hl1').trans v0
          have q1 := (hb.cell (p := ⟨w.heap.size, 1, none⟩) hl1').trans v1
          have q2 := (hb.cell (p := ⟨w.heap.size, 2, none⟩) hl1').trans v2
          clear hb u0 u1 u2 u3 v0 v1 v2
          repeat (first | go_skip | go_guarded | go_step | go_upon)
          go_ret
          exact ⟨by rw [HV.out]; first | rfl | simp, B4.out⟩
        | true =>
          go_enter Tryz.func20, Tryz.ntmps20
          repeat (first | (go_at_call 18; fail) | go_skip | go_guarded | go_step | go_upon)
          refine (CR.out _ B0.out).mono ?_
          rintro r w3 ⟨rfl, hb⟩
          simp only []
          have B3 := Lib.hid (Below.trans B0.out (hb.mono B0.out.size))
          have u0 := (hb.cell (p := ⟨w1.heap.size, 0, none⟩) hl2).trans t0
          have u1 := (hb.cell (p := ⟨w1.heap.size, 1, none⟩) hl2).trans t1
          have u2 := (hb.cell (p := ⟨w1.heap.size, 2, none⟩) hl2).trans t2
          have u3 := (hb.cell (p := ⟨w1.heap.size, 3, none⟩) hl2).trans t3
          have v0 := (hb.cell (p := ⟨w.heap.size, 0, none⟩) hl1).trans s0
          have v1 := (hb.cell (p := ⟨w.heap.size, 1, none⟩) hl1).trans s1
          have v2 := (hb.cell (p := ⟨w.heap.size, 2, none⟩) hl1).trans s2
          have hl1' := Nat.lt_of_lt_of_le hl1 hb.size
          have hl2' := Nat.lt_of_lt_of_le hl2 hb.size
          clear hb s0 s1 s2 s3 t0 t1 t2 t3 r0 r1 r2 r3
          repeat (first | (go_at_call 18; fail) | go_skip | go_guarded | go_step | go_upon)
          refine (CS.out _ B3.out).mono ?_
          rintro r w4 ⟨rfl, hb⟩
          simp only []
          have B4 := Lib.hid (Below.trans B3.out (hb.mono B3.out.size))
          have p0 := (hb.cell (p := ⟨w1.heap.size, 0, none⟩) hl2').trans u0
          have p1 := (hb.cell (p := ⟨w1.heap.size, 1, none⟩) hl2').trans u1
          have p2 := (hb.cell (p := ⟨w1.heap.size, 2, none⟩) hl2').trans u2
          have q0 := (hb.cell (p := ⟨w.heap.size, 0, none⟩) hl1').trans v0
          have q1 := (hb.cell (p := ⟨w.heap.size, 1, none⟩) hl1').trans v1
          have q2 := (hb.cell (p := ⟨w.heap.size, 2, none⟩) hl1').trans v2
          clear hb u0 u1 u2 u3 v0 v1 v2
          repeat (first | (go_at_call 12; refine (CT.out _ B4.out).mono ?_; rintro r w5 ⟨rfl, hb⟩; simp only []; have B5 := Lib.hid (Below.trans B4.out (hb.mono B4.out.size)); clear hb) | go_skip | go_guarded | go_step | go_upon)
          go_ret
          exact ⟨by rw [HV.out]; first | rfl | simp, B5.out⟩
end AR
end Go.Proofs.YtiggdojppfblkaaGreatDoor
