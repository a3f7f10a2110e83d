/- Layer 4: the contract of the program's Sum: the fingerprint. -/
import Derived.Test.YtmpmmebmhffaeaaDoorQHashEnd
set_option linter.all false
set_option maxRecDepth 100000
set_option maxHeartbeats 25600000
namespace Go.Proofs.YtmpmmebmhffaeaaDoor
open Go.RowKit Go.Lib
namespace HQ
open HP HS HR

theorem blocks_app (n : Nat) (b : List UInt8) : ∀ (q : Nat) (v : St) (a : List UInt8), a.length = 64 * q → blocks (q + n) v (a ++ b) = blocks n (blocks q v a) b
  | 0, v, a, h => by
    have : a = [] := List.eq_nil_of_length_eq_zero (by omega)
    subst this
    rw [Nat.zero_add, List.nil_append]
    rfl
  | q + 1, v, a, h => by
    rw [show q + 1 + n = (q + n) + 1 by omega, blocks, blocks, List.take_append_of_le_length (by omega), List.drop_append_of_le_length (by omega)]
    exact blocks_app n b q _ _ (by rw [List.length_drop]; omega)
theorem outL_is (v : St) : outL v = (stL v).flatMap be4 := by
  obtain ⟨a, b, c, d, e, f, g, h⟩ := v
  simp [outL, stL, List.flatMap_cons]
theorem endL_len (r : List UInt8) (n : Nat) : (endL r n).length = r.length + 9 + noughts r.length := by
  unfold endL
  rw [List.length_append, List.length_append, List.length_append, List.length_replicate, be8_len, List.length_singleton]
  omega
theorem pad_cut (l : List UInt8) : padL l = l.take (64 * (l.length / 64)) ++ endL (l.drop (64 * (l.length / 64))) l.length := by
  unfold padL endL
  have hn : noughts (l.drop (64 * (l.length / 64))).length = noughts l.length := by
    rw [List.length_drop]
    unfold noughts
    omega
  rw [hn, ← List.append_assoc, ← List.append_assoc, ← List.append_assoc, List.take_append_drop]
theorem end_mod (r : List UInt8) (n : Nat) : (endL r n).length % 64 = 0 := by
  rw [endL_len]
  unfold noughts
  omega
theorem sha_cut (l : List UInt8) : shaL l = (stL (blocks ((endL (l.drop (64 * (l.length / 64))) l.length).length / 64) (blocks (l.length / 64) HS.start (l.take (64 * (l.length / 64)))) (endL (l.drop (64 * (l.length / 64))) l.length))).flatMap be4 := by
  unfold shaL
  rw [outL_is]
  have ht : (l.take (64 * (l.length / 64))).length = 64 * (l.length / 64) := by rw [List.length_take]; omega
  have hm := end_mod (l.drop (64 * (l.length / 64))) l.length
  rw [← blocks_app _ _ _ _ _ ht, ← pad_cut]
  congr 3
  rw [pad_cut, List.length_append, ht]
  omega
theorem words_start : Words HS.start := by
  intro x hx
  simp only [stL, HS.start, List.mem_cons, List.not_mem_nil, or_false] at hx
  rcases hx with hx | hx | hx | hx | hx | hx | hx | hx <;> omega
theorem words_blocks : ∀ (n : Nat) (v : St) (l : List UInt8), Words v → Words (blocks n v l)
  | 0, _, _, h => h
  | n + 1, v, l, _ => words_blocks n _ _ (words_block v _)
theorem start_is : stL HS.start = [1779033703, 3144134277, 1013904242, 2773480762, 1359893119, 2600822924, 528734635, 1541459225] := by simp [stL, HS.start]
theorem begun_lit : #[Value.int .u32 1779033703, Value.int .u32 3144134277, Value.int .u32 1013904242, Value.int .u32 2773480762, Value.int .u32 1359893119, Value.int .u32 2600822924, Value.int .u32 528734635, Value.int .u32 1541459225] = cellsU (stL HS.start) := by rw [start_is]; simp [cellsU]
theorem start_cell {W : World} {g : Nat} {t : TypeId} (R : Row W g (stL HS.start) t) : W.cell? ⟨g, 0, none⟩ = some (.int .u32 1779033703) ∧ W.cell? ⟨g, 1, none⟩ = some (.int .u32 3144134277) ∧ W.cell? ⟨g, 2, none⟩ = some (.int .u32 1013904242) ∧ W.cell? ⟨g, 3, none⟩ = some (.int .u32 2773480762) ∧ W.cell? ⟨g, 4, none⟩ = some (.int .u32 1359893119) ∧ W.cell? ⟨g, 5, none⟩ = some (.int .u32 2600822924) ∧ W.cell? ⟨g, 6, none⟩ = some (.int .u32 528734635) ∧ W.cell? ⟨g, 7, none⟩ = some (.int .u32 1541459225) := by
  rw [start_is] at R
  exact ⟨R.cell (i := 0) (x := 1779033703) rfl, R.cell (i := 1) (x := 3144134277) rfl, R.cell (i := 2) (x := 1013904242) rfl, R.cell (i := 3) (x := 2773480762) rfl, R.cell (i := 4) (x := 1359893119) rfl, R.cell (i := 5) (x := 2600822924) rfl, R.cell (i := 6) (x := 528734635) rfl, R.cell (i := 7) (x := 1541459225) rfl⟩
set_option maxRecDepth 100000 in
set_option maxHeartbeats 1600000 in
theorem sum_any (s : ByteArray) (w : World) (he : Env w) (hs : s.size ≤ 140737488355328) :
    Calls Tryd.prog 31 #[.string s] w fun r w' => r = .returned (.string ⟨(shaL s.data.toList).toArray⟩) ∧ Below w.heap.size w w' := by
  obtain ⟨m, hm⟩ : ∃ m, m = 64 * (s.size / 64) := ⟨_, rfl⟩
  have hmz : 64 * ((s.size : Int) / 64) = m := by omega
  have hml : m ≤ s.size := by omega
  have HE := Lib.hid he
  have c0 : w.cell? ⟨0, 0, none⟩ = some (.int .u32 1779033703) := he.beg 0 (by decide)
  have c1 : w.cell? ⟨0, 1, none⟩ = some (.int .u32 3144134277) := he.beg 1 (by decide)
  have c2 : w.cell? ⟨0, 2, none⟩ = some (.int .u32 1013904242) := he.beg 2 (by decide)
  have c3 : w.cell? ⟨0, 3, none⟩ = some (.int .u32 2773480762) := he.beg 3 (by decide)
  have c4 : w.cell? ⟨0, 4, none⟩ = some (.int .u32 1359893119) := he.beg 4 (by decide)
  have c5 : w.cell? ⟨0, 5, none⟩ = some (.int .u32 2600822924) := he.beg 5 (by decide)
  have c6 : w.cell? ⟨0, 6, none⟩ = some (.int .u32 528734635) := he.beg 6 (by decide)
  have c7 : w.cell? ⟨0, 7, none⟩ = some (.int .u32 1541459225) := he.beg 7 (by decide)
  clear he
  go_enter Tryd.func31, Tryd.ntmps31
  go_wp2_with fail
  rw [begun_lit, show (s.size : Int) / 64 * 64 = m by omega]
  clear hmz
  obtain ⟨W1, hW1⟩ : ∃ W1, w.alloc (Obj.cells (cellsU (stL HS.start)) 99) = W1 := ⟨_, rfl⟩
  have R1 : Row W1 w.heap.size (stL HS.start) 99 := by rw [← hW1]; exact Row.new w (stL HS.start) 99
  have B1 : Below w.heap.size w W1 := by rw [← hW1]; exact (Below.refl _ _).alloc (Nat.le_refl _) _
  rw [hW1]
  clear hW1 c0 c1 c2 c3 c4 c5 c6 c7
  have hblt : w.heap.size < W1.heap.size := R1.lt
  obtain ⟨k0, k1, k2, k3, k4, k5, k6, k7⟩ := start_cell R1
  have HR1 := Lib.hid R1
  have HB1 := Lib.hid B1
  have hmd : m / 64 = s.size / 64 := by omega
  have htl : (s.extract 0 m).data.toList = s.data.toList.take m := take_of2 s m
  have hts : (s.extract 0 m).size = m := by rw [Lib.size_eq, htl, List.length_take, ← Lib.size_eq]; omega
  obtain ⟨v1, hv1⟩ : ∃ v1, blocks (s.size / 64) HS.start (s.data.toList.take m) = v1 := ⟨_, rfl⟩
  have hw1 : Words v1 := by rw [← hv1]; exact words_blocks _ _ _ words_start
  obtain ⟨xa, xb, xc, xd, xe, xf, xg, xh⟩ := v1
  have cA : Calls Tryd.prog 46 #[.agg #[.int .u32 1779033703, .int .u32 3144134277, .int .u32 1013904242, .int .u32 2773480762, .int .u32 1359893119, .int .u32 2600822924, .int .u32 528734635, .int .u32 1541459225], .string (s.extract 0 m)] W1.drew fun r w' => r = .returned (.agg #[.int .u32 (xa : Nat), .int .u32 (xb : Nat), .int .u32 (xc : Nat), .int .u32 (xd : Nat), .int .u32 (xe : Nat), .int .u32 (xf : Nat), .int .u32 (xg : Nat), .int .u32 (xh : Nat)]) ∧ Below W1.heap.size W1 w' := by
    have hx := after_any HS.start (s.extract 0 m) W1.drew ((HE.out.below HB1.out).below (Below.drew (Below.refl _ _))) words_start (by rw [hts]; omega) (by rw [hts]; unfold maxLen; omega)
    rw [hts, hmd, htl, hv1, ← begun_lit] at hx
    exact hx.mono fun r w' k => ⟨k.1, ⟨k.2.os, k.2.tape, k.2.output, k.2.size, k.2.block⟩⟩
  have CA := Lib.hid cA
  have HW1 := Lib.hid hw1
  have HV1 := Lib.hid hv1
  have hmlz : (m : Int) ≤ s.size := by omega
  have HMZ := Lib.hid (And.intro hmd (And.intro hm hml))
  clear cA R1 B1 hw1 hv1 hts htl hmd hm hml
  go_region_with ((go_at_call 46; refine CA.out.mono ?_; rintro r w2 ⟨rfl, hb2⟩; have d0 := (hb2.cell (p := ⟨w.heap.size, 0, none⟩) hblt).trans k0; have f0 := (hb2.frozen (p := ⟨w.heap.size, 0, none⟩) hblt).trans (HR1.out.frozen 0); have d1 := (hb2.cell (p := ⟨w.heap.size, 1, none⟩) hblt).trans k1; have f1 := (hb2.frozen (p := ⟨w.heap.size, 1, none⟩) hblt).trans (HR1.out.frozen 1); have d2 := (hb2.cell (p := ⟨w.heap.size, 2, none⟩) hblt).trans k2; have f2 := (hb2.frozen (p := ⟨w.heap.size, 2, none⟩) hblt).trans (HR1.out.frozen 2); have d3 := (hb2.cell (p := ⟨w.heap.size, 3, none⟩) hblt).trans k3; have f3 := (hb2.frozen (p := ⟨w.heap.size, 3, none⟩) hblt).trans (HR1.out.frozen 3); have d4 := (hb2.cell (p := ⟨w.heap.size, 4, none⟩) hblt).trans k4; have f4 := (hb2.frozen (p := ⟨w.heap.size, 4, none⟩) hblt).trans (HR1.out.frozen 4); have d5 := (hb2.cell (p := ⟨w.heap.size, 5, none⟩) hblt).trans k5; have f5 := (hb2.frozen (p := ⟨w.heap.size, 5, none⟩) hblt).trans (HR1.out.frozen 5); have d6 := (hb2.cell (p := ⟨w.heap.size, 6, none⟩) hblt).trans k6; have f6 := (hb2.frozen (p := ⟨w.heap.size, 6, none⟩) hblt).trans (HR1.out.frozen 6); have d7 := (hb2.cell (p := ⟨w.heap.size, 7, none⟩) hblt).trans k7; have f7 := (hb2.frozen (p := ⟨w.heap.size, 7, none⟩) hblt).trans (HR1.out.frozen 7); have HB2 := Lib.hid hb2; clear hb2))
  obtain ⟨W3, hW3⟩ : ∃ W3, ((((((((w2).setCell ⟨w.heap.size, 0, none⟩ (Value.int .u32 (xa : Nat))).setCell ⟨w.heap.size, 1, none⟩ (Value.int .u32 (xb : Nat))).setCell ⟨w.heap.size, 2, none⟩ (Value.int .u32 (xc : Nat))).setCell ⟨w.heap.size, 3, none⟩ (Value.int .u32 (xd : Nat))).setCell ⟨w.heap.size, 4, none⟩ (Value.int .u32 (xe : Nat))).setCell ⟨w.heap.size, 5, none⟩ (Value.int .u32 (xf : Nat))).setCell ⟨w.heap.size, 6, none⟩ (Value.int .u32 (xg : Nat))).setCell ⟨w.heap.size, 7, none⟩ (Value.int .u32 (xh : Nat)) = W3 := ⟨_, rfl⟩
  have R3 : Row W3 w.heap.size [xa, xb, xc, xd, xe, xf, xg, xh] 99 := by
    rw [← hW3]
    exact (((((((((HR1.out.below HB2.out hblt)).set 0 xa).set 1 xb).set 2 xc).set 3 xd).set 4 xe).set 5 xf).set 6 xg).set 7 xh
  have B3 : Below w.heap.size w W3 := by
    rw [← hW3]
    exact (((((((((Below.trans HB1.out (HB2.out.mono HB1.out.size))).setCell (Nat.le_refl _) _).setCell (Nat.le_refl _) _).setCell (Nat.le_refl _) _).setCell (Nat.le_refl _) _).setCell (Nat.le_refl _) _).setCell (Nat.le_refl _) _).setCell (Nat.le_refl _) _).setCell (Nat.le_refl _) _
  rw [hW3]
  have HR3 := Lib.hid R3
  have HB3 := Lib.hid B3
  have hblt3 : w.heap.size < W3.heap.size := R3.lt
  clear hW3 d0 d1 d2 d3 d4 d5 d6 d7 f0 f1 f2 f3 f4 f5 f6 f7 k0 k1 k2 k3 k4 k5 k6 k7 CA HB2 HR1 HB1 hblt
  have k0 : W3.cell? ⟨w.heap.size, 0, none⟩ = some (.int .u32 (xa : Nat)) := R3.cell rfl
  have k1 : W3.cell? ⟨w.heap.size, 1, none⟩ = some (.int .u32 (xb : Nat)) := R3.cell rfl
  have k2 : W3.cell? ⟨w.heap.size, 2, none⟩ = some (.int .u32 (xc : Nat)) := R3.cell rfl
  have k3 : W3.cell? ⟨w.heap.size, 3, none⟩ = some (.int .u32 (xd : Nat)) := R3.cell rfl
  have k4 : W3.cell? ⟨w.heap.size, 4, none⟩ = some (.int .u32 (xe : Nat)) := R3.cell rfl
  have k5 : W3.cell? ⟨w.heap.size, 5, none⟩ = some (.int .u32 (xf : Nat)) := R3.cell rfl
  have k6 : W3.cell? ⟨w.heap.size, 6, none⟩ = some (.int .u32 (xg : Nat)) := R3.cell rfl
  have k7 : W3.cell? ⟨w.heap.size, 7, none⟩ = some (.int .u32 (xh : Nat)) := R3.cell rfl
  obtain ⟨hmd, hm, hml⟩ := HMZ.out
  obtain ⟨E, hE⟩ : ∃ E : ByteArray, E = ⟨(endL (s.data.toList.drop m) s.data.toList.length).toArray⟩ := ⟨_, rfl⟩
  have hEl : E.data.toList = endL (s.data.toList.drop m) s.data.toList.length := by rw [hE]
  have hdl : (s.extract m s.size).data.toList = s.data.toList.drop m := drop_of2 s m
  have hds : (s.extract m s.size).size ≤ 400 := by rw [Lib.size_eq, hdl, List.length_drop, ← Lib.size_eq]; omega
  have hEs : E.size % 64 = 0 := by rw [Lib.size_eq, hEl]; exact end_mod _ _
  have hEm : E.size ≤ maxLen := by
    rw [Lib.size_eq, hEl, endL_len, List.length_drop, ← Lib.size_eq]
    have := noughts_lt (s.size - m)
    unfold maxLen
    have h2 : (s.data.toList.drop m).length = s.size - m := by rw [List.length_drop, ← Lib.size_eq]
    first | omega | (rw [← h2] at this; omega)
  obtain ⟨v2, hv2⟩ : ∃ v2, blocks (E.size / 64) (xa, xb, xc, xd, xe, xf, xg, xh) E.data.toList = v2 := ⟨_, rfl⟩
  have hw2 : Words v2 := by rw [← hv2]; exact words_blocks _ _ _ HW1.out
  have HF : Hid (shaL s.data.toList = (stL v2).flatMap be4) := Lib.hid (by
    rw [sha_cut, ← Lib.size_eq, ← hm, HV1.out, ← hv2, Lib.size_eq E, hEl, ← Lib.size_eq])
  obtain ⟨ya, yb, yc, yd, ye, yf, yg, yh⟩ := v2
  have cE : Calls Tryd.prog 47 #[.string (s.extract m s.size), .int .i64 s.size] W3.drew fun r w' => r = .returned (.string E) ∧ Below W3.heap.size W3 w' := by
    have hx := end_any s.size (s.extract m s.size) W3.drew hds hs
    rw [hdl, Lib.size_eq s, ← hE, ← Lib.size_eq] at hx
    exact hx.mono fun r w' k => ⟨k.1, ⟨k.2.os, k.2.tape, k.2.output, k.2.size, k.2.block⟩⟩
  have cB : ∀ w4, Below W3.heap.size W3 w4 → Calls Tryd.prog 46 #[.agg #[.int .u32 (xa : Nat), .int .u32 (xb : Nat), .int .u32 (xc : Nat), .int .u32 (xd : Nat), .int .u32 (xe : Nat), .int .u32 (xf : Nat), .int .u32 (xg : Nat), .int .u32 (xh : Nat)], .string E] w4 fun r w' => r = .returned (.agg #[.int .u32 (ya : Nat), .int .u32 (yb : Nat), .int .u32 (yc : Nat), .int .u32 (yd : Nat), .int .u32 (ye : Nat), .int .u32 (yf : Nat), .int .u32 (yg : Nat), .int .u32 (yh : Nat)]) ∧ Below W3.heap.size W3 w' := fun w4 h4 => by
    have hx := after_any (xa, xb, xc, xd, xe, xf, xg, xh) E w4 ((HE.out.below HB3.out).below h4) HW1.out hEs hEm
    rw [hv2] at hx
    exact hx.mono fun r w' k => ⟨k.1, Below.trans h4 (k.2.mono h4.size)⟩
  have CE := Lib.hid cE
  have CB := Lib.hid cB
  have HW2 := Lib.hid hw2
  clear cE cB hw2 hv2 hEm hEs hds hdl hEl hE hmd hm hml R3 B3
  go_wp2_with fail
  go_region_with (first | (go_at_call 47; refine CE.out.mono ?_; rintro r w4 ⟨rfl, hb4⟩; have q0 := (hb4.cell (p := ⟨w.heap.size, 0, none⟩) hblt3).trans k0; have q1 := (hb4.cell (p := ⟨w.heap.size, 1, none⟩) hblt3).trans k1; have q2 := (hb4.cell (p := ⟨w.heap.size, 2, none⟩) hblt3).trans k2; have q3 := (hb4.cell (p := ⟨w.heap.size, 3, none⟩) hblt3).trans k3; have q4 := (hb4.cell (p := ⟨w.heap.size, 4, none⟩) hblt3).trans k4; have q5 := (hb4.cell (p := ⟨w.heap.size, 5, none⟩) hblt3).trans k5; have q6 := (hb4.cell (p := ⟨w.heap.size, 6, none⟩) hblt3).trans k6; have q7 := (hb4.cell (p := ⟨w.heap.size, 7, none⟩) hblt3).trans k7; have HB4 := Lib.hid hb4; clear hb4) | (go_at_call 46; refine (CB.out _ HB4.out).mono ?_; rintro r w5 ⟨rfl, hb5⟩; have d0 := (hb5.cell (p := ⟨w.heap.size, 0, none⟩) hblt3).trans k0; have f0 := (hb5.frozen (p := ⟨w.heap.size, 0, none⟩) hblt3).trans (HR3.out.frozen 0); have d1 := (hb5.cell (p := ⟨w.heap.size, 1, none⟩) hblt3).trans k1; have f1 := (hb5.frozen (p := ⟨w.heap.size, 1, none⟩) hblt3).trans (HR3.out.frozen 1); have d2 := (hb5.cell (p := ⟨w.heap.size, 2, none⟩) hblt3).trans k2; have f2 := (hb5.frozen (p := ⟨w.heap.size, 2, none⟩) hblt3).trans (HR3.out.frozen 2); have d3 := (hb5.cell (p := ⟨w.heap.size, 3, none⟩) hblt3).trans k3; have f3 := (hb5.frozen (p := ⟨w.heap.size, 3, none⟩) hblt3).trans (HR3.out.frozen 3); have d4 := (hb5.cell (p := ⟨w.heap.size, 4, none⟩) hblt3).trans k4; have f4 := (hb5.frozen (p := ⟨w.heap.size, 4, none⟩) hblt3).trans (HR3.out.frozen 4); have d5 := (hb5.cell (p := ⟨w.heap.size, 5, none⟩) hblt3).trans k5; have f5 := (hb5.frozen (p := ⟨w.heap.size, 5, none⟩) hblt3).trans (HR3.out.frozen 5); have d6 := (hb5.cell (p := ⟨w.heap.size, 6, none⟩) hblt3).trans k6; have f6 := (hb5.frozen (p := ⟨w.heap.size, 6, none⟩) hblt3).trans (HR3.out.frozen 6); have d7 := (hb5.cell (p := ⟨w.heap.size, 7, none⟩) hblt3).trans k7; have f7 := (hb5.frozen (p := ⟨w.heap.size, 7, none⟩) hblt3).trans (HR3.out.frozen 7); have HB5 := Lib.hid hb5; clear hb5))
  all_goals
    obtain ⟨W6, hW6⟩ : ∃ W6, ((((((((w5).setCell ⟨w.heap.size, 0, none⟩ (Value.int .u32 (ya : Nat))).setCell ⟨w.heap.size, 1, none⟩ (Value.int .u32 (yb : Nat))).setCell ⟨w.heap.size, 2, none⟩ (Value.int .u32 (yc : Nat))).setCell ⟨w.heap.size, 3, none⟩ (Value.int .u32 (yd : Nat))).setCell ⟨w.heap.size, 4, none⟩ (Value.int .u32 (ye : Nat))).setCell ⟨w.heap.size, 5, none⟩ (Value.int .u32 (yf : Nat))).setCell ⟨w.heap.size, 6, none⟩ (Value.int .u32 (yg : Nat))).setCell ⟨w.heap.size, 7, none⟩ (Value.int .u32 (yh : Nat)) = W6 := ⟨_, rfl⟩
    have R6 : Row W6 w.heap.size [ya, yb, yc, yd, ye, yf, yg, yh] 99 := by
      rw [← hW6]
      exact (((((((((HR3.out.below HB5.out hblt3)).set 0 ya).set 1 yb).set 2 yc).set 3 yd).set 4 ye).set 5 yf).set 6 yg).set 7 yh
    have B6 : Below w.heap.size w W6 := by
      rw [← hW6]
      exact (((((((((Below.trans HB3.out (HB5.out.mono HB3.out.size))).setCell (Nat.le_refl _) _).setCell (Nat.le_refl _) _).setCell (Nat.le_refl _) _).setCell (Nat.le_refl _) _).setCell (Nat.le_refl _) _).setCell (Nat.le_refl _) _).setCell (Nat.le_refl _) _).setCell (Nat.le_refl _) _
    rw [hW6]
    clear hW6 d0 d1 d2 d3 d4 d5 d6 d7 f0 f1 f2 f3 f4 f5 f6 f7 k0 k1 k2 k3 k4 k5 k6 k7 q0 q1 q2 q3 q4 q5 q6 q7 CE CB
    have k0 : W6.cell? ⟨w.heap.size, 0, none⟩ = some (.int .u32 (ya : Nat)) := R6.cell rfl
    have k1 : W6.cell? ⟨w.heap.size, 1, none⟩ = some (.int .u32 (yb : Nat)) := R6.cell rfl
    have k2 : W6.cell? ⟨w.heap.size, 2, none⟩ = some (.int .u32 (yc : Nat)) := R6.cell rfl
    have k3 : W6.cell? ⟨w.heap.size, 3, none⟩ = some (.int .u32 (yd : Nat)) := R6.cell rfl
    have k4 : W6.cell? ⟨w.heap.size, 4, none⟩ = some (.int .u32 (ye : Nat)) := R6.cell rfl
    have k5 : W6.cell? ⟨w.heap.size, 5, none⟩ = some (.int .u32 (yf : Nat)) := R6.cell rfl
    have k6 : W6.cell? ⟨w.heap.size, 6, none⟩ = some (.int .u32 (yg : Nat)) := R6.cell rfl
    have k7 : W6.cell? ⟨w.heap.size, 7, none⟩ = some (.int .u32 (yh : Nat)) := R6.cell rfl
    have cT : Calls Tryd.prog 48 #[.agg #[.int .u32 (ya : Nat), .int .u32 (yb : Nat), .int .u32 (yc : Nat), .int .u32 (yd : Nat), .int .u32 (ye : Nat), .int .u32 (yf : Nat), .int .u32 (yg : Nat), .int .u32 (yh : Nat)]] W6 fun r w' => r = .returned (.string ⟨(shaL s.data.toList).toArray⟩) ∧ Below W6.heap.size W6 w' := by
      rw [HF.out]
      exact text_any [ya, yb, yc, yd, ye, yf, yg, yh] W6 rfl HW2.out
    have CT := Lib.hid cT
    have HB6 := Lib.hid B6
    clear cT R6 B6
    go_wp2_with (go_at_call 48; refine CT.out.mono ?_; rintro r w7 ⟨rfl, hb7⟩; have HB7 := Lib.hid hb7; clear hb7)
    go_ret
    exact ⟨rfl, Below.trans HB6.out (HB7.out.mono HB6.out.size)⟩
end HQ
end Go.Proofs.YtmpmmebmhffaeaaDoor
