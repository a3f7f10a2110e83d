/- Layer 14: the maker's tellCopy. -/
import Derived.Test.YtmpmmebmhffaeaaDoorQDlMk
set_option linter.all false
set_option maxRecDepth 100000
set_option maxHeartbeats 25600000
namespace Go.Proofs.YtmpmmebmhffaeaaDoor
open Go.RowKit Go.Lib Go.BigFrame Go.Maps
namespace DM
open OM DL HP HS

theorem row_turn {W : World} {g j : Nat} {cur : Array Value} {t : TypeId} {fr : Nat × Nat} (h : W.heap[g]? = some (.cells cur t fr)) (u : Value) : (W.setCell ⟨g, j, none⟩ u).heap[g]? = some (.cells (cur.setIfInBounds j u) t fr) := by
  simp [World.setCell, Array.getElem?_modify, h]
theorem own_turn {w : World} {B t size n c g : Nat} {xs : List Value} (h : w.ownsRow B t size (.slice (some ⟨g, 0, none⟩) n c) n xs) (h0 : 0 < n) (j : Nat) (u : Value) : (w.setCell ⟨g, j, none⟩ u).ownsRow B t size (.slice (some ⟨g, 0, none⟩) n c) n (xs.set j u) := by
  refine ⟨by rw [List.length_set]; exact h.1, ?_⟩
  rcases h.2 with ⟨_, h1⟩ | ⟨g', c', cur, h1, hb, h2, h3, h4, h5, h6⟩
  · omega
  · injection h1 with e1 _ e3
    injection e1 with e1
    injection e1 with e1 _ _
    subst e1 e3
    refine .inr ⟨g, c, cur.setIfInBounds j u, rfl, hb, row_turn (j := j) h2 u, h3, h4, by rw [Array.size_setIfInBounds]; exact h5, ?_⟩
    rw [Array.toList_setIfInBounds, List.take_set, h6]
theorem own_cell {w : World} {B t size n c g : Nat} {xs : List Value} (h : w.ownsRow B t size (.slice (some ⟨g, 0, none⟩) n c) n xs) {j : Nat} {u : Value} (hu : xs[j]? = some u) : w.cell? ⟨g, j, none⟩ = some u ∧ w.frozen? ⟨g, j, none⟩ = false := by
  have hj := (List.getElem?_eq_some_iff.1 hu).1
  rcases h.2 with ⟨_, h1⟩ | ⟨g', c', cur, h1, hb, h2, h3, h4, h5, h6⟩
  · rw [h.1, h1] at hj
    omega
  · injection h1 with e1 _ e3
    injection e1 with e1
    injection e1 with e1 _ _
    subst e1 e3
    refine ⟨?_, frozen_of_row w g j _ _ h2⟩
    rw [cell_of_row w g j _ _ _ h2, ← Array.getElem?_toList, ← hu, ← h6, List.getElem?_take_of_lt (by rw [← h.1]; exact hj)]
theorem opC_last (P : List Stp) (x : Stp) : (opC (P ++ [x]))[P.length * 3]? = some (.int .i64 x.1) ∧ (opC (P ++ [x]))[P.length * 3 + 1]? = some (.int .i64 x.2.1) := by
  have h := c3_at (p := oF) (q := oC) (r := oT) (P ++ [x]) P.length x (by simp)
  exact ⟨h.1, h.2.1⟩
theorem opC_turn (P : List Stp) (x : Stp) (n : Int) : (opC (P ++ [x])).set (P.length * 3 + 1) (.int .i64 n) = opC (P ++ [(x.1, n, x.2.2)]) := by
  have e := c3_len (p := oF) (q := oC) (r := oT) P
  show (c3 oF oC oT (P ++ [x])).set _ _ = c3 oF oC oT (P ++ [(x.1, n, x.2.2)])
  rw [c3_snoc, c3_snoc, List.set_append_right _ _ (by omega), e, Nat.add_sub_cancel_left]
  rfl
section
variable (B b1 b2 : Nat) (s : ByteArray) (sz f u k told base N : Nat)
set_option maxRecDepth 100000 in
set_option maxHeartbeats 6400000 in
/-- A step of its own, where there is none yet. -/
theorem copy_nil (i : Nat) (w : World) (a : Option Addr) (c : Nat) (h : MkAt B b1 b2 s sz f u k told (.slice a 0 c) w) (ho : w.ownsRow base 46 3 (.slice a 0 c) 0 (opC [])) (hi : i ≤ 4194304) (hN : N ≤ B) (hNb : N ≤ base) (hb : base ≤ w.heap.size) :
    Calls Tryd.prog 40 #[ptr B, .int .i64 i] w (MkPost B b1 b2 s sz f u k told base N [((i : Int), 1, [])] w) := by
  have HM := Lib.hid h
  have HO := Lib.hid ho
  obtain ⟨⟨c0, c1, c2, c3, c4, z, lt⟩, c5, c6, c7, c8, -⟩ := h
  have hNw : N ≤ w.heap.size := Nat.le_trans hN (Nat.le_of_lt lt)
  unfold MkPost
  clear z
  go_enter Tryd.func40, Tryd.ntmps40
  repeat (first | go_skip | go_guarded | go_step | go_upon)
  go_quiet (fail)
  rename_i nq
  have B1 := Lib.hid (drew_out w nq)
  have HM1 := Lib.hid (HM.out.below B1.out)
  have HO1 := Lib.hid (owns_below HO.out B1.out)
  clear c0 c1 c2 c3 c4 lt c5 c6 c7 c8
  generalize w.drewN nq = w1 at B1 HM1 HO1 ⊢
  obtain ⟨⟨c0, c1, c2, c3, c4, z, lt⟩, c5, c6, c7, c8, -⟩ := HM1.out
  clear z c0 c1 c2 c3 c4
  obtain ⟨a3, cc3, w3, hrun, hown, hout⟩ := op_step (x := .int .i64 i) (y := .int .i64 1) (z := .string ⟨#[]⟩) HO1.out (by omega) (Nat.le_trans hb B1.out.size) (fun v hv => by simp at hv; rcases hv with rfl | rfl | rfl <;> rfl)
  have HM3 := Lib.hid (HM1.out.out hout (fun e => HM1.out.apart HO1.out e))
  have HO3 := Lib.hid hown
  have HU3 := Lib.hid hout
  obtain ⟨⟨-, -, -, -, -, z, lt3⟩, -, -, d7, -, -⟩ := HM3.out
  have z7 := z 7
  clear z hown hout
  repeat (first | (at_builtin; refine wpList_append_run _ rfl _ _ _ _ rfl _ _ rfl rfl _ _ hrun ?_) | go_skip | go_guarded | go_step | go_upon)
  go_end0
  have hO4 := own_set (B := B) (j := 7) HO3.out (HM3.out.apart HO3.out) (.slice a3 (0 + 1) cc3)
  refine ⟨a3, cc3, rfl, ?_, ?_, ?_, ?_⟩
  · exact HM3.out.set7 _
  · exact hO4
  · refine ((MKeep.below B1.out).trans (MKeep.outC HU3.out (fun j hj => ?_))).trans (MKeep.outC ((FP.Out.refl (fun k => k = B) w3).setCell (p := ⟨B, 7, none⟩) (fun _ => rfl) _) (fun j hj => ?_))
    · obtain ⟨cs, fz, e⟩ := owns_kind HO1.out j hj
      exact ⟨cs, _, fz, e⟩
    · obtain ⟨cs, fz, e⟩ := HM3.out.kind
      rw [hj]
      exact ⟨cs, _, fz, e⟩
  · exact (own_out HO1.out (B1.out.mono hNw) hNb hNw HU3.out).setCell (p := ⟨B, 7, none⟩) hN _
set_option maxRecDepth 100000 in
set_option maxHeartbeats 6400000 in
/-- A step of its own, behind others. -/
theorem copy_apart (i : Nat) (P : List Stp) (x : Stp) (w : World) (a : Option Addr) (c : Nat) (h : MkAt B b1 b2 s sz f u k told (.slice a (P ++ [x]).length c) w) (ho : w.ownsRow base 46 3 (.slice a (P ++ [x]).length c) (P ++ [x]).length (opC (P ++ [x]))) (hi : i ≤ 4194304) (hx : 0 ≤ x.1 ∧ 0 ≤ x.2.1 ∧ x.1 + x.2.1 ≤ 4194304) (hne : ¬ (0 < x.2.1 ∧ x.1 + x.2.1 = i)) (hO : (P ++ [x]).length ≤ 4194304) (hN : N ≤ B) (hNb : N ≤ base) (hb : base ≤ w.heap.size) :
    Calls Tryd.prog 40 #[ptr B, .int .i64 i] w (MkPost B b1 b2 s sz f u k told base N (P ++ [x] ++ [((i : Int), 1, [])]) w) := by
  obtain ⟨ao, cq, hv, hx2⟩ := owns_view ho
  injection hv with e1 _ e2
  subst e1 e2
  obtain ⟨g, rfl, hg, -, -⟩ := hx2 (by simp)
  obtain ⟨l0, l1⟩ := opC_last P x
  obtain ⟨r0, -⟩ := own_cell ho l0
  obtain ⟨r1, -⟩ := own_cell ho l1
  have HLn : Hid ((P ++ [x]).length = P.length + 1) := Lib.hid (by simp)
  have HL : Hid ((P ++ [x] ++ [((i : Int), (1 : Int), ([] : List UInt8))]).length = P.length + 1 + 1) := Lib.hid (by simp)
  have HS : Hid (opC (P ++ [x] ++ [((i : Int), (1 : Int), ([] : List UInt8))]) = opC (P ++ [x]) ++ [.int .i64 i, .int .i64 1, .string ⟨#[]⟩]) := Lib.hid (op_snoc _ _ _ _ rfl)
  rw [HLn.out] at h ho hO
  obtain ⟨p, hp⟩ : ∃ p, P.length = p := ⟨_, rfl⟩
  rw [hp] at h ho hO r0 r1 HL
  obtain ⟨F, C, T⟩ := x
  simp only at hx hne r0 r1
  have HM := Lib.hid h
  have HO := Lib.hid ho
  obtain ⟨⟨c0, c1, c2, c3, c4, z, lt⟩, c5, c6, c7, c8, -⟩ := h
  have hNw : N ≤ w.heap.size := Nat.le_trans hN (Nat.le_of_lt lt)
  have hpz : ((p + 1 : Nat) : Int) - 1 = p := by omega
  have hpz2 : (p : Int) + 1 - 1 = p := by omega
  have hp0 : (0 : Int) ≤ p := by omega
  have hp1 : (p : Int) < (p : Int) + 1 := by omega
  unfold MkPost
  clear z hp l0 l1 hx2 HLn
  by_cases hC : 0 < C
  · have hq : (F + C == (i : Int)) = false := by simp; exact fun e => hne ⟨hC, e⟩
    go_enter Tryd.func40, Tryd.ntmps40
    repeat (first | go_skip | go_guarded | go_step | go_upon)
    go_quiet (fail)
    rename_i nq
    have B1 := Lib.hid (drew_out w nq)
    have HM1 := Lib.hid (HM.out.below B1.out)
    have HO1 := Lib.hid (owns_below HO.out B1.out)
    clear c0 c1 c2 c3 c4 lt c5 c6 c7 c8 r0 r1
    generalize w.drewN nq = w1 at B1 HM1 HO1 ⊢
    obtain ⟨⟨c0, c1, c2, c3, c4, z, lt⟩, c5, c6, c7, c8, -⟩ := HM1.out
    clear z c0 c1 c2 c3 c4
    obtain ⟨a3, cc3, w3, hrun, hown, hout⟩ := op_step (x := .int .i64 i) (y := .int .i64 1) (z := .string ⟨#[]⟩) HO1.out (by omega) (Nat.le_trans hb B1.out.size) (fun v hv => by simp at hv; rcases hv with rfl | rfl | rfl <;> rfl)
    have HM3 := Lib.hid (HM1.out.out hout (fun e => HM1.out.apart HO1.out e))
    have HO3 := Lib.hid hown
    have HU3 := Lib.hid hout
    obtain ⟨⟨-, -, -, -, -, z, lt3⟩, -, -, d7, -, -⟩ := HM3.out
    have z7 := z 7
    clear z hown hout
    repeat (first | (at_builtin; refine wpList_append_run _ rfl _ _ _ _ rfl _ _ rfl rfl _ _ hrun ?_) | go_skip | go_guarded | go_step | go_upon)
    go_end0
    have hO4 := own_set (B := B) (j := 7) HO3.out (HM3.out.apart HO3.out) (.slice a3 (p + 1 + 1) cc3)
    refine ⟨a3, cc3, rfl, ?_, ?_, ?_, ?_⟩
    · rw [HL.out]
      exact HM3.out.set7 _
    · rw [HL.out, HS.out]
      exact hO4
    · refine ((MKeep.below B1.out).trans (MKeep.outC HU3.out (fun j hj => ?_))).trans (MKeep.outC ((FP.Out.refl (fun k => k = B) w3).setCell (p := ⟨B, 7, none⟩) (fun _ => rfl) _) (fun j hj => ?_))
      · obtain ⟨cs, fz, e⟩ := owns_kind HO1.out j hj
        exact ⟨cs, _, fz, e⟩
      · obtain ⟨cs, fz, e⟩ := HM3.out.kind
        rw [hj]
        exact ⟨cs, _, fz, e⟩
    · exact (own_out HO1.out (B1.out.mono hNw) hNb hNw HU3.out).setCell (p := ⟨B, 7, none⟩) hN _
  · clear hne
    go_enter Tryd.func40, Tryd.ntmps40
    repeat (first | go_skip | go_guarded | go_step | go_upon)
    go_quiet (fail)
    rename_i nq
    have B1 := Lib.hid (drew_out w nq)
    have HM1 := Lib.hid (HM.out.below B1.out)
    have HO1 := Lib.hid (owns_below HO.out B1.out)
    clear c0 c1 c2 c3 c4 lt c5 c6 c7 c8 r0 r1
    generalize w.drewN nq = w1 at B1 HM1 HO1 ⊢
    obtain ⟨⟨c0, c1, c2, c3, c4, z, lt⟩, c5, c6, c7, c8, -⟩ := HM1.out
    clear z c0 c1 c2 c3 c4
    obtain ⟨a3, cc3, w3, hrun, hown, hout⟩ := op_step (x := .int .i64 i) (y := .int .i64 1) (z := .string ⟨#[]⟩) HO1.out (by omega) (Nat.le_trans hb B1.out.size) (fun v hv => by simp at hv; rcases hv with rfl | rfl | rfl <;> rfl)
    have HM3 := Lib.hid (HM1.out.out hout (fun e => HM1.out.apart HO1.out e))
    have HO3 := Lib.hid hown
    have HU3 := Lib.hid hout
    obtain ⟨⟨-, -, -, -, -, z, lt3⟩, -, -, d7, -, -⟩ := HM3.out
    have z7 := z 7
    clear z hown hout
    repeat (first | (at_builtin; refine wpList_append_run _ rfl _ _ _ _ rfl _ _ rfl rfl _ _ hrun ?_) | go_skip | go_guarded | go_step | go_upon)
    go_end0
    have hO4 := own_set (B := B) (j := 7) HO3.out (HM3.out.apart HO3.out) (.slice a3 (p + 1 + 1) cc3)
    refine ⟨a3, cc3, rfl, ?_, ?_, ?_, ?_⟩
    · rw [HL.out]
      exact HM3.out.set7 _
    · rw [HL.out, HS.out]
      exact hO4
    · refine ((MKeep.below B1.out).trans (MKeep.outC HU3.out (fun j hj => ?_))).trans (MKeep.outC ((FP.Out.refl (fun k => k = B) w3).setCell (p := ⟨B, 7, none⟩) (fun _ => rfl) _) (fun j hj => ?_))
      · obtain ⟨cs, fz, e⟩ := owns_kind HO1.out j hj
        exact ⟨cs, _, fz, e⟩
      · obtain ⟨cs, fz, e⟩ := HM3.out.kind
        rw [hj]
        exact ⟨cs, _, fz, e⟩
    · exact (own_out HO1.out (B1.out.mono hNw) hNb hNw HU3.out).setCell (p := ⟨B, 7, none⟩) hN _
set_option maxRecDepth 100000 in
set_option maxHeartbeats 6400000 in
/-- The step ahead goes on by a block. -/
theorem copy_join (i : Nat) (P : List Stp) (x : Stp) (w : World) (a : Option Addr) (c : Nat) (h : MkAt B b1 b2 s sz f u k told (.slice a (P ++ [x]).length c) w) (ho : w.ownsRow base 46 3 (.slice a (P ++ [x]).length c) (P ++ [x]).length (opC (P ++ [x]))) (hi : i ≤ 4194304) (hx : 0 ≤ x.1 ∧ 0 ≤ x.2.1 ∧ x.1 + x.2.1 ≤ 4194304) (he : 0 < x.2.1 ∧ x.1 + x.2.1 = i) (hO : (P ++ [x]).length ≤ 4194304) (hN : N ≤ B) (hNb : N ≤ base) :
    Calls Tryd.prog 40 #[ptr B, .int .i64 i] w (MkPost B b1 b2 s sz f u k told base N (P ++ [(x.1, x.2.1 + 1, x.2.2)]) w) := by
  obtain ⟨ao, cq, hv, hx2⟩ := owns_view ho
  injection hv with e1 _ e2
  subst e1 e2
  obtain ⟨g, rfl, hg, hgb, -⟩ := hx2 (by simp)
  obtain ⟨l0, l1⟩ := opC_last P x
  obtain ⟨r0, -⟩ := own_cell ho l0
  obtain ⟨r1, -⟩ := own_cell ho l1
  have HLn : Hid ((P ++ [x]).length = P.length + 1) := Lib.hid (by simp)
  have HL : Hid ((P ++ [(x.1, x.2.1 + 1, x.2.2)]).length = P.length + 1) := Lib.hid (by simp)
  have HS := Lib.hid (opC_turn P x (x.2.1 + 1))
  have HP2 : Hid ((opC (P ++ [x]))[P.length * 3 + 1]? = some (.int .i64 x.2.1)) := Lib.hid l1
  rw [HLn.out] at h ho hO
  obtain ⟨p, hp⟩ : ∃ p, P.length = p := ⟨_, rfl⟩
  rw [hp] at h ho hO r0 r1 HL HS HP2
  obtain ⟨F, C, T⟩ := x
  simp only at hx he r0 r1 HS HL HP2
  have HM := Lib.hid h
  have HO := Lib.hid ho
  have hgB : g ≠ B := fun e => h.apart ho (by rw [e]; rfl)
  obtain ⟨⟨c0, c1, c2, c3, c4, z, lt⟩, c5, c6, c7, c8, -⟩ := h
  have hNw : N ≤ w.heap.size := Nat.le_trans hN (Nat.le_of_lt lt)
  have hpz : ((p + 1 : Nat) : Int) - 1 = p := by omega
  have hpz2 : (p : Int) + 1 - 1 = p := by omega
  have hp0 : (0 : Int) ≤ p := by omega
  have hp1 : (p : Int) < (p : Int) + 1 := by omega
  have hC : 0 < C := he.1
  have hq : (F + C == (i : Int)) = true := by simp; exact he.2
  unfold MkPost
  clear z hp l0 l1 hx2 HLn
  go_enter Tryd.func40, Tryd.ntmps40
  repeat (first | go_skip | go_guarded | go_step | go_upon)
  go_quiet (fail)
  rename_i nq
  have B1 := Lib.hid (drew_out w nq)
  have HM1 := Lib.hid (HM.out.below B1.out)
  have HO1 := Lib.hid (owns_below HO.out B1.out)
  clear c0 c1 c2 c3 c4 lt c5 c6 c7 c8 r0 r1
  generalize w.drewN nq = w1 at B1 HM1 HO1 ⊢
  obtain ⟨⟨c0, c1, c2, c3, c4, z, lt⟩, c5, c6, c7, c8, -⟩ := HM1.out
  clear z c0 c1 c2 c3 c4
  obtain ⟨r1, f1⟩ := own_cell HO1.out HP2.out
  repeat (first | go_skip | go_guarded | go_step | go_upon)
  refine bodyPost_ret (results_none rfl _ _ _) rfl ?_
  have hO4 := own_turn HO1.out (by omega) (p * 3 + 1) (.int .i64 (C + 1))
  have hU : FP.Out (fun j => j = g) w1 (w1.setCell ⟨g, p * 3 + 1, none⟩ (.int .i64 (C + 1))) := (FP.Out.refl (fun j => j = g) w1).setCell (p := ⟨g, p * 3 + 1, none⟩) (fun _ => rfl) _
  refine ⟨some ⟨g, 0, none⟩, c, rfl, ?_, ?_, ?_, ?_⟩
  · rw [HL.out]
    exact HM1.out.out hU (fun e => hgB e.symm)
  · rw [HL.out]
    rw [HS.out] at hO4
    exact hO4
  · refine (MKeep.below B1.out).trans (MKeep.outC hU (fun j hj => ?_))
    obtain ⟨cs, fz, e⟩ := owns_kind HO1.out g rfl
    rw [hj]
    exact ⟨cs, _, fz, e⟩
  · exact (B1.out.mono hNw).trans (hU.below (fun j hj _ e => by omega) (Nat.le_trans hNw B1.out.size))
theorem tellCopy_any (nb i : Nat) (O : List Stp) (w : World) (a : Option Addr) (c : Nat) (h : MkAt B b1 b2 s sz f u k told (.slice a O.length c) w) (ho : w.ownsRow base 46 3 (.slice a O.length c) O.length (opC O)) (hw : Within nb O) (hi : i < nb) (hnb : nb ≤ 4194304) (hO : O.length ≤ 4194304) (hN : N ≤ B) (hNb : N ≤ base) (hb : base ≤ w.heap.size) :
    Calls Tryd.prog 40 #[ptr B, .int .i64 i] w (MkPost B b1 b2 s sz f u k told base N (addC O i) w) := by
  rcases List.eq_nil_or_concat O with rfl | ⟨P, x, rfl⟩
  · exact copy_nil B b1 b2 s sz f u k told base N i w a c h ho (by omega) hN hNb hb
  · rw [List.concat_eq_append] at h ho hw hO ⊢
    have hx := hw x (by simp)
    unfold addC
    rw [List.getLast?_concat]
    simp only
    by_cases he : 0 < x.2.1 ∧ x.1 + x.2.1 = (i : Int)
    · rw [if_pos he, List.dropLast_concat]
      exact copy_join B b1 b2 s sz f u k told base N i P x w a c h ho (by omega) ⟨hx.1, hx.2.1, by omega⟩ he hO hN hNb
    · rw [if_neg he]
      exact copy_apart B b1 b2 s sz f u k told base N i P x w a c h ho (by omega) ⟨hx.1, hx.2.1, by omega⟩ he hO hN hNb hb
end
end DM
end Go.Proofs.YtmpmmebmhffaeaaDoor
