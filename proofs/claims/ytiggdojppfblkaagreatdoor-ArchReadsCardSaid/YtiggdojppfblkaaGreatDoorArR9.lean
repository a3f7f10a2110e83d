/- Layer 9: the contracts of the document's SameStamps, Same. -/
import Derived.Test.YtiggdojppfblkaaGreatDoorArRS
import Derived.Test.YtiggdojppfblkaaGreatDoorArChk
namespace Go.Proofs.YtiggdojppfblkaaGreatDoor
open Go.RowKit Go.Lib Go.BigFrame
namespace AR
open OM TP TM TG TW AP TR

theorem eq_sm (a b : Sm) (W : World) : (Op.equalIn 10000 67 (smVal a) (smVal b)).run Tryz.prog W = .ok (decide (a = b)) W := by
  unfold smVal
  rw [run_equalIn_struct W 9999 67 _ _ (by kernel_rfl) (by kernel_rfl)]
  have names : (Tryz.prog.fieldsOf 67).toList.map (fun f => (f.name, f.type, f.offset)) = [("Ino", 3, 0), ("Size", 3, 1), ("Time", 3, 2)] := by kernel_rfl
  obtain ⟨f0, f1, f2, e⟩ : ∃ f0 f1 f2, (Tryz.prog.fieldsOf 67).toList = [f0, f1, f2] := by
    have hl := congrArg List.length names
    rw [List.length_map] at hl
    match h : (Tryz.prog.fieldsOf 67).toList, hl with
    | [f0, f1, f2], _ => exact ⟨f0, f1, f2, rfl⟩
  rw [e] at names
  simp only [List.map_cons, List.map_nil, List.cons.injEq, Prod.mk.injEq, and_true] at names
  obtain ⟨⟨n0, t0, o0⟩, ⟨n1, t1, o1⟩, n2, t2, o2⟩ := names
  rw [e]
  obtain ⟨x, y, z⟩ := a
  obtain ⟨x', y', z'⟩ := b
  simp [Op.eqFields, go_sem, n0, n1, n2, t0, t1, t2, o0, o1, o2, Tryz.underlying3]
  by_cases h1 : x = x' <;> by_cases h2 : y = y' <;> by_cases h3 : z = z' <;> simp [h1, h2, h3, Sem.run_pure]
set_option maxRecDepth 100000 in
set_option maxHeartbeats 1600000 in
theorem rstamps_any (ao bo : Option Addr) (ca cb : Nat) (xs ys : List Sm) (w : World) (ha : LayM w ao xs) (hb : LayM w bo ys) (la : xs.length ≤ maxLen) (lb : ys.length ≤ maxLen) :
    Calls Tryz.prog 43 #[.slice ao xs.length ca, .slice bo ys.length cb] w fun r w' => r = .returned (.bool (decide (xs = ys))) ∧ Below w.heap.size w w' := by
  obtain ⟨n, hn⟩ : ∃ n, xs.length = n := ⟨_, rfl⟩
  obtain ⟨m, hm⟩ : ∃ m, ys.length = m := ⟨_, rfl⟩
  have HN := Lib.hid hn
  have HM := Lib.hid hm
  have HA := Lib.hid ha
  have HB := Lib.hid hb
  unfold maxLen at la lb
  rw [hn] at la ⊢
  rw [hm] at lb ⊢
  have hnz : (n : Int) ≤ 9223372036854775807 := by omega
  clear ha hb
  by_cases hnm : n = m
  · subst hnm
    clear hn hm la lb
    go_enter Tryz.func43, Tryz.ntmps43
    repeat (first | go_skip | go_guarded | go_step | go_upon)
    go_loopw [5] (fun s3 wr => ∃ k : Nat, s3 = .int .i64 k ∧ k ≤ n ∧ xs.take k = ys.take k ∧ Below w.heap.size w wr) (fun s3 _ => n - (Go.RowKit.intOf s3).toNat)
    case atStart => exact ⟨0, rfl, Nat.zero_le _, rfl, Below.refl _ _⟩
    case round =>
      obtain ⟨k, rfl, hk, ht, hbl⟩ := hrel
      have HT := Lib.hid ht
      have HW := Lib.hid hbl
      have HAr := Lib.hid (HA.out.below hbl)
      have HBr := Lib.hid (HB.out.below hbl)
      clear ht hbl
      by_cases hlt : k < n
      · have hkz : (k : Int) < n := by omega
        obtain ⟨g1, o1, rfl, _, hc1⟩ := HAr.out (by rw [HN.out]; omega)
        obtain ⟨g2, o2, rfl, _, hc2⟩ := HBr.out (by rw [HM.out]; omega)
        obtain ⟨x, hx⟩ : ∃ x, xs[k]? = some x := ⟨xs[k]'(by rw [HN.out]; exact hlt), List.getElem?_eq_getElem _⟩
        obtain ⟨y, hy⟩ : ∃ y, ys[k]? = some y := ⟨ys[k]'(by rw [HM.out]; exact hlt), List.getElem?_eq_getElem _⟩
        obtain ⟨x0, x1, x2⟩ := hc1 k x hx
        obtain ⟨y0, y1, y2⟩ := hc2 k y hy
        have he := fun W => eq_sm x y W
        unfold smVal at he
        by_cases hxy : x = y
        · have HT2 : Hid (xs.take (k + 1) = ys.take (k + 1)) := Lib.hid (by rw [List.take_add_one, List.take_add_one, HT.out, hx, hy, hxy])
          rw [decide_eq_true hxy] at he
          clear hc1 hc2 hx hy hxy
          repeat (first | go_skip | go_guarded | go_step | go_upon)
          go_quiet (fail)
          rename_i nq
          have HW3 : Hid (Below w.heap.size w (wr.drewN nq)) := Lib.hid ⟨HW.out.os, HW.out.tape, HW.out.output, HW.out.size, HW.out.block⟩
          clear x0 x1 x2 y0 y1 y2 he
          generalize wr.drewN nq = w3 at HW3 ⊢
          repeat (first | go_skip | go_guarded | go_step | go_upon)
          exact ⟨⟨k + 1, by go_num, by omega, HT2.out, HW3.out⟩, by simp [Go.RowKit.intOf]; omega⟩
        · have HF : Hid (decide (xs = ys) = false) := Lib.hid (by
            rw [decide_eq_false]
            intro e
            rw [e, hy] at hx
            exact hxy (Option.some.inj hx).symm)
          rw [decide_eq_false hxy] at he
          clear hc1 hc2 hx hy hxy
          repeat (first | go_skip | go_guarded | go_step | go_upon)
          go_quiet (fail)
          rename_i nq
          have HW3 : Hid (Below w.heap.size w (wr.drewN nq)) := Lib.hid ⟨HW.out.os, HW.out.tape, HW.out.output, HW.out.size, HW.out.block⟩
          clear x0 x1 x2 y0 y1 y2 he
          generalize wr.drewN nq = w3 at HW3 ⊢
          repeat (first | go_skip | go_guarded | go_step | go_upon)
          go_ret
          exact ⟨by rw [HF.out]; rfl, HW3.out⟩
      · have hkz : ¬ (k : Int) < n := by omega
        have HF : Hid (decide (xs = ys) = true) := Lib.hid (by
          rw [decide_eq_true]
          have := HT.out
          rw [List.take_of_length_le (by rw [HN.out]; omega), List.take_of_length_le (by rw [HM.out]; omega)] at this
          exact this)
        clear hlt
        repeat (first | go_skip | go_guarded | go_step | go_upon)
        go_ret
        exact ⟨by rw [HF.out]; rfl, HW.out⟩
  · have HF : Hid (decide (xs = ys) = false) := Lib.hid (decide_eq_false fun e => hnm (by rw [← hn, ← hm, e]))
    have hb : ((n : Int) == (m : Int)) = false := by simp; omega
    clear hn hm la lb hnm
    go_enter Tryz.func43, Tryz.ntmps43
    repeat (first | go_skip | go_guarded | go_step | go_upon)
    go_ret
    exact ⟨by rw [HF.out]; rfl, Below.refl _ _⟩
set_option maxRecDepth 100000 in
set_option maxHeartbeats 6400000 in
theorem rsame9_any (a b : Ar) (ao : Option Addr) (ca : Nat) (so : Option Addr) (sc : Nat) (bo : Option Addr) (cb : Nat) (uo : Option Addr) (tc : Nat) (w : World) (h : ArAt w a ao ca so) (k : ArAt w b bo cb uo) :
    Calls Tryz.prog 22 #[arVal a ao ca so sc, arVal b bo cb uo tc] w fun r w' => r = .returned (.bool (decide (a = b))) ∧ Below w.heap.size w w' := by
  have CT : Hid (∀ W, Below w.heap.size w W → Calls Tryz.prog 12 #[.slice ao a.tree.length ca, .slice bo b.tree.length cb] W fun r w' => r = .returned (.bool (decide (a.tree = b.tree))) ∧ Below W.heap.size W w') := Lib.hid (fun W hW => rsame_any ao bo ca cb a.tree b.tree W (h.tree.lay.below hW) (k.tree.lay.below hW) h.tree.max k.tree.max)
  have CU : Hid (∀ W, Below w.heap.size w W → Calls Tryz.prog 43 #[.slice so a.stamps.length sc, .slice uo b.stamps.length tc] W fun r w' => r = .returned (.bool (decide (a.stamps = b.stamps))) ∧ Below W.heap.size W w') := Lib.hid (fun W hW => rstamps_any so uo sc tc a.stamps b.stamps W (h.stamps.lay.below hW) (k.stamps.lay.below hW) h.stamps.max k.stamps.max)
  unfold arVal txt
  obtain ⟨P, hP⟩ : ∃ P : ByteArray, ⟨a.pair.toArray⟩ = P := ⟨_, rfl⟩
  obtain ⟨Q, hQ⟩ : ∃ P : ByteArray, ⟨b.pair.toArray⟩ = P := ⟨_, rfl⟩
  have hPQ : (P.toList == Q.toList) = decide (a.pair = b.pair) := by rw [← hP, ← hQ]; exact str_eq _ _
  have hst : (a.serial == b.serial) = decide (a.serial = b.serial) := by rw [Bool.eq_iff_iff]; simp
  obtain ⟨n, hn⟩ : ∃ n, a.tree.length = n := ⟨_, rfl⟩
  obtain ⟨m, hm⟩ : ∃ n, a.stamps.length = n := ⟨_, rfl⟩
  obtain ⟨s, hs⟩ : ∃ n, a.serial = n := ⟨_, rfl⟩
  obtain ⟨n', hn'⟩ : ∃ n, b.tree.length = n := ⟨_, rfl⟩
  obtain ⟨m', hm'⟩ : ∃ n, b.stamps.length = n := ⟨_, rfl⟩
  obtain ⟨s', hs'⟩ : ∃ n, b.serial = n := ⟨_, rfl⟩
  obtain ⟨x3, hx3⟩ : ∃ x, decide (a.pair = b.pair) = x := ⟨_, rfl⟩
  obtain ⟨x4, hx4⟩ : ∃ x, decide (a.serial = b.serial) = x := ⟨_, rfl⟩
  obtain ⟨x5, hx5⟩ : ∃ x, decide (a.tree = b.tree) = x := ⟨_, rfl⟩
  obtain ⟨x6, hx6⟩ : ∃ x, decide (a.stamps = b.stamps) = x := ⟨_, rfl⟩
  have HV : Hid (decide (a = b) = (x3 && x4 && x5 && x6)) := Lib.hid (by
    rw [← hx3, ← hx4, ← hx5, ← hx6]
    obtain ⟨p, s, t, u⟩ := a
    obtain ⟨p', s', t', u'⟩ := b
    simp [Bool.decide_and, Bool.and_assoc])
  rw [hn, hn', hx5] at CT
  rw [hm, hm', hx6] at CU
  rw [hx3] at hPQ
  rw [hx4, hs, hs'] at hst
  rw [hP, hQ, hn, hm, hs, hn', hm', hs']
  obtain ⟨w1, hw1⟩ : ∃ w1, w.alloc (.cells #[.string P, .int .i64 s, .slice ao n ca, .slice so m sc] 35) = w1 := ⟨_, rfl⟩
  have b1 : Below w.heap.size w w1 := by rw [← hw1]; exact (Below.refl _ _).alloc (Nat.le_refl _) _
  obtain ⟨r0, r1, r2, r3⟩ := box4 w (.string P) (.int .i64 s) (.slice ao n ca) (.slice so m sc) 35
  rw [hw1] at r0 r1 r2 r3
  have hl0 : w.heap.size < w1.heap.size := by rw [← hw1]; simp
  obtain ⟨w2, hw2⟩ : ∃ w2, w1.alloc (.cells #[.string Q, .int .i64 s', .slice bo n' cb, .slice uo m' tc] 35) = w2 := ⟨_, rfl⟩
  have b2 : Below w1.heap.size w1 w2 := by rw [← hw2]; exact (Below.refl _ _).alloc (Nat.le_refl _) _
  obtain ⟨t0, t1, t2, t3⟩ := box4 w1 (.string Q) (.int .i64 s') (.slice bo n' cb) (.slice uo m' tc) 35
  rw [hw2] at t0 t1 t2 t3
  have hl2 : w1.heap.size < w2.heap.size := by rw [← hw2]; simp
  have hl1 : w.heap.size < w2.heap.size := Nat.lt_trans hl0 hl2
  have s0 := (b2.cell (p := ⟨w.heap.size, 0, none⟩) hl0).trans r0
  have s1 := (b2.cell (p := ⟨w.heap.size, 1, none⟩) hl0).trans r1
  have s2 := (b2.cell (p := ⟨w.heap.size, 2, none⟩) hl0).trans r2
  have s3 := (b2.cell (p := ⟨w.heap.size, 3, none⟩) hl0).trans r3
  have B0 := Lib.hid (Below.trans b1 (b2.mono b1.size))
  clear hP hQ hn hm hs hn' hm' hs' hx3 hx4 hx5 hx6 h k b1 b2
  cases x3 with
  | false =>
    go_enter Tryz.func22, Tryz.ntmps22
    repeat (first | go_skip | go_guarded | go_step | go_upon)
    go_ret
    exact ⟨by rw [HV.out]; first | rfl | simp, B0.out⟩
  | true =>
    cases x4 with
    | false =>
      go_enter Tryz.func22, Tryz.ntmps22
      repeat (first | go_skip | go_guarded | go_step | go_upon)
      go_ret
      exact ⟨by rw [HV.out]; first | rfl | simp, B0.out⟩
    | true =>
      cases x5 with
      | false =>
        go_enter Tryz.func22, Tryz.ntmps22
        repeat (first | (go_at_call 12; fail) | go_skip | go_guarded | go_step | go_upon)
        refine (CT.out _ B0.out).mono ?_
        rintro r w3 ⟨rfl, hb⟩
        simp only []
        have B3 := Lib.hid (Below.trans B0.out (hb.mono B0.out.size))
        have u3 := (hb.cell (p := ⟨w1.heap.size, 3, none⟩) hl2).trans t3
        have v3 := (hb.cell (p := ⟨w.heap.size, 3, none⟩) hl1).trans s3
        clear hb
        repeat (first | go_skip | go_guarded | go_step | go_upon)
        go_ret
        exact ⟨by rw [HV.out]; first | rfl | simp, B3.out⟩
      | true =>
        go_enter Tryz.func22, Tryz.ntmps22
        repeat (first | (go_at_call 12; fail) | go_skip | go_guarded | go_step | go_upon)
        refine (CT.out _ B0.out).mono ?_
        rintro r w3 ⟨rfl, hb⟩
        simp only []
        have B3 := Lib.hid (Below.trans B0.out (hb.mono B0.out.size))
        have u3 := (hb.cell (p := ⟨w1.heap.size, 3, none⟩) hl2).trans t3
        have v3 := (hb.cell (p := ⟨w.heap.size, 3, none⟩) hl1).trans s3
        clear hb
        repeat (first | (go_at_call 43; fail) | go_skip | go_guarded | go_step | go_upon)
        refine (CU.out _ B3.out).mono ?_
        rintro r w4 ⟨rfl, hb⟩
        simp only []
        have B4 := Lib.hid (Below.trans B3.out (hb.mono B3.out.size))
        clear hb
        repeat (first | go_skip | go_guarded | go_step | go_upon)
        go_ret
        exact ⟨by rw [HV.out]; first | rfl | simp, B4.out⟩
end AR
end Go.Proofs.YtiggdojppfblkaaGreatDoor
