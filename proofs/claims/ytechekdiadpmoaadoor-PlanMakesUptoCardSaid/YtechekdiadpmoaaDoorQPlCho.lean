/- Layer 13: the walk of PlanChoices. -/
import Derived.Test.YtechekdiadpmoaaDoorQPlWay
set_option linter.all false
set_option maxRecDepth 100000
set_option maxHeartbeats 25600000
namespace Go.Proofs.YtechekdiadpmoaaDoor
open Go.RowKit Go.Lib Go.Maps Go.BigFrame
namespace PR
open OM TM PL PM PB

theorem make_err {s : Say} {items cs : List Pi} (h : (makeL s items cs).2.2 ≠ 0) : (makeL s items cs).1 = [] := by
  unfold makeL at h ⊢
  split
  · rfl
  · split
    · rfl
    · rename_i h1 _ h2
      rw [h1] at h
      simp only at h
      rw [h2] at h
      exact absurd rfl h
theorem make_ok {s : Say} {items cs : List Pi} (h : (makeL s items cs).2.2 = 0) : badI [] items = none ∧ badC items [] cs = none := by
  unfold makeL at h
  cases h1 : badI [] items with
  | some n => rw [h1] at h; exact absurd (show (91 : Int) = 0 from h) (by decide)
  | none =>
    refine ⟨rfl, ?_⟩
    rw [h1] at h
    simp only at h
    cases h2 : badC items [] cs with
    | some n => rw [h2] at h; exact absurd (show (130 : Int) = 0 from h) (by decide)
    | none => rfl
theorem less_ok {items cs0 : List Pi} {last : Pi} (h : badC items [] (cs0 ++ [last]) = none) : badC items [] cs0 = none ∧ findP cs0 last.1 = none := by
  rw [badC_snoc] at h
  cases h2 : badC items [] cs0 with
  | some n => rw [h2] at h; cases h
  | none =>
    rw [h2] at h
    simp only [List.nil_append] at h
    refine ⟨rfl, ?_⟩
    split at h
    · rename_i h3; exact h3.1
    · cases h
theorem settle_other (s : Say) (cs0 : List Pi) (last x : Pi) (h : x.1 ≠ last.1) : settleL s (cs0 ++ [last]) x = settleL s cs0 x := by
  unfold settleL
  rw [find_snoc]
  cases findP cs0 x.1 with
  | some d => rfl
  | none => simp only; rw [if_neg (fun e => h e.symm)]
theorem settle_this (s : Say) (cs0 : List Pi) (last x : Pi) (h : x.1 = last.1) (hf : findP cs0 last.1 = none) : settleL s (cs0 ++ [last]) x = if last.2 = 4 then dirI x.2 else last.2 := by
  unfold settleL
  rw [find_snoc, h, hf]
  simp
def keptL (items : List Pi) : List Pi := items.filter fun i => decide (i.2 ≠ 1)
theorem done_kept (s : Say) (cs items : List Pi) {i : Nat} {x : Pi} (h : (keptL items)[i]? = some x) : (doneL s cs items)[i]? = some (x.1, settleL s cs x) := by
  unfold doneL
  unfold keptL at h
  rw [List.getElem?_map, h]
  rfl
theorem done_klen (s : Say) (cs items : List Pi) : (doneL s cs items).length = (keptL items).length := by
  unfold doneL keptL
  rw [List.length_map]
theorem dirI_two (k : Int) : dirI k = 1 ∨ dirI k = 2 := by
  unfold dirI
  split
  · exact .inr rfl
  · exact .inl rfl
theorem ArgP.less {W : World} {ao : Option Addr} {c : Nat} {L : List Pi} {x : Pi} (h : ArgP W ao c (L ++ [x])) : ArgP W ao c L := by
  refine ⟨fun h0 => ?_, h.no, by have := h.cap; rw [List.length_append] at this; omega, by have := h.len; rw [List.length_append] at this; omega, fun y hy => h.small y (List.mem_append.2 (.inl hy))⟩
  obtain ⟨g, o, e, hg, hc⟩ := h.lay (by simp)
  exact ⟨g, o, e, hg, fun i y hi => hc i y (by rw [List.getElem?_append_left (List.getElem?_eq_some_iff.1 hi).1]; exact hi)⟩
set_option maxRecDepth 100000 in
set_option maxHeartbeats 12800000 in
theorem choices_law (iv : Option Addr) (il ic : Nat) (jv : Option Addr) (jl jc : Nat) (mo : Option Addr) (mc : Nat) (M : List Pm) (pr fo : Int) (ba fa : Bool) (ao : Option Addr) (ca : Nat) (items : List Pi) (co : Option Addr) (cc : Nat) (cs : List Pi) (w : World) (he : NF.Env w) (hM : ArgM w mo mc M) (hI : ArgP w ao ca items) (hC : ArgP w co cc cs) :
    Calls Tryd.prog 7 #[.slice ao items.length ca, profV (.slice iv il ic) (.slice jv jl jc) mo M.length mc pr fo ba fa, .slice co cs.length cc] w fun r w' => r = .returned (.bool true) ∧ Below w.heap.size w w' := by
  have CW : Hid (∀ W, Below w.heap.size w W → Calls Tryd.prog 15 #[] W fun r w' => r = .returned (.bool true) ∧ Below W.heap.size W w') := Lib.hid (fun W hW => awake_any W (he.below hW))
  rcases List.eq_nil_or_concat cs with rfl | ⟨cs0, last, rfl⟩
  · obtain ⟨n, hn⟩ : ∃ n, items.length = n := ⟨_, rfl⟩
    obtain ⟨nm, hnm⟩ : ∃ nm, M.length = nm := ⟨_, rfl⟩
    rw [hn, hnm]
    unfold profV
    simp only [List.length_nil]
    have hA0 : Hid (Below w.heap.size w (w.alloc (.cells #[.slice iv il ic, .slice jv jl jc, .slice mo nm mc, .int .i64 pr, .int .i64 fo, .bool ba, .bool fa] 39))) := Lib.hid ((Below.refl _ _).alloc (Nat.le_refl _) _)
    clear he hM hI hC hn hnm
    go_enter Tryd.func7, Tryd.ntmps7
    repeat (first | go_skip | go_guarded | go_step | go_upon)
    refine (CW.out _ hA0.out).mono ?_
    rintro r w1 ⟨rfl, hb1⟩
    simp only []
    have B2 := Lib.hid (hA0.out.trans (hb1.mono hA0.out.size))
    clear hb1
    repeat (first | go_skip | go_guarded | go_step | go_upon)
    go_ret
    exact ⟨rfl, B2.out⟩
  · obtain ⟨lp, ld⟩ := last
    rw [List.concat_eq_append] at hC ⊢
    have CM : Hid (∀ W, Below w.heap.size w W → Calls Tryd.prog 16 #[.slice ao items.length ca, profV (.slice iv il ic) (.slice jv jl jc) mo M.length mc pr fo ba fa, .slice co (cs0 ++ [(lp, ld)]).length cc] W (MakePost (makeL ⟨fo, pr, ba, fun q => decide (progL M q ≠ [])⟩ items (cs0 ++ [(lp, ld)])) W)) := Lib.hid (fun W hW => make_any iv il ic jv jl jc mo mc M pr fo ba fa ao ca items co cc _ W (he.below hW) (hM.below hW) (hI.below hW) (hC.below hW))
    have CN : Hid (∀ W, Below w.heap.size w W → Calls Tryd.prog 16 #[.slice ao items.length ca, profV (.slice iv il ic) (.slice jv jl jc) mo M.length mc pr fo ba fa, .slice co cs0.length cc] W (MakePost (makeL ⟨fo, pr, ba, fun q => decide (progL M q ≠ [])⟩ items cs0) W)) := Lib.hid (fun W hW => make_any iv il ic jv jl jc mo mc M pr fo ba fa ao ca items co cc cs0 W (he.below hW) (hM.below hW) (hI.below hW) ((ArgP.less hC).below hW))
    have HI := Lib.hid hI
    have HC := Lib.hid hC
    have hlen := hI.len
    have hcl : cs0.length + 1 ≤ 1048576 := by have := hC.len; rw [List.length_append] at this; exact this
    have hcc : cs0.length + 1 ≤ cc := by have := hC.cap; rw [List.length_append] at this; exact this
    rw [List.length_append] at CM ⊢
    simp only [List.length_singleton] at CM ⊢
    obtain ⟨s, hs⟩ : ∃ s : Say, (⟨fo, pr, ba, fun q => decide (progL M q ≠ [])⟩ : Say) = s := ⟨_, rfl⟩
    rw [hs] at CM CN
    obtain ⟨n, hn⟩ : ∃ n, items.length = n := ⟨_, rfl⟩
    have HN := Lib.hid hn
    obtain ⟨nm, hnm⟩ : ∃ nm, M.length = nm := ⟨_, rfl⟩
    obtain ⟨m, hm⟩ : ∃ m, cs0.length = m := ⟨_, rfl⟩
    have HMm := Lib.hid hm
    rw [hn, hnm, hm] at CM CN ⊢
    rw [hn] at hlen
    rw [hm] at hcl hcc
    unfold profV at CM CN ⊢
    obtain ⟨⟨PL1, PN1, PE1⟩, hP1⟩ : ∃ P, makeL s items (cs0 ++ [(lp, ld)]) = P := ⟨_, rfl⟩
    obtain ⟨⟨PL2, PN2, PE2⟩, hP2⟩ : ∃ P, makeL s items cs0 = P := ⟨_, rfl⟩
    rw [hP1] at CM
    rw [hP2] at CN
    have HP1 := Lib.hid hP1
    have HP2 := Lib.hid hP2
    unfold MakePost at CM CN
    simp only at CM CN
    have hc0 : ∃ g o, co = some ⟨g, o, none⟩ ∧ g < w.heap.size ∧ w.cell? ⟨g, o + m * 2, none⟩ = some (txt lp) ∧ w.cell? ⟨g, o + m * 2 + 1, none⟩ = some (.int .i64 ld) := by
      obtain ⟨g, o, e, hg, hc⟩ := hC.lay (by simp)
      have := hc m (lp, ld) (by rw [← hm]; simp)
      exact ⟨g, o, e, hg, this.1, this.2⟩
    obtain ⟨g, o, rfl, hg, hc0, hc1⟩ := hc0
    unfold txt at hc0
    have HG := Lib.hid hg
    have HC0 := Lib.hid hc0
    have HC1 := Lib.hid hc1
    have hw1 : wrap64 ((m : Int) + 1 - 1) = m := by unfold wrap64; omega
    have hmz : (m : Int) < m + 1 := by omega
    have hm0 : ((m : Int) + 1 == 0) = false := by simp; omega
    have hmc : (m : Int) ≤ cc := by omega
    clear he hM hI hC hn hnm hm hs hP1 hP2 hg hc0 hc1
    go_enter Tryd.func7, Tryd.ntmps7
    repeat (first | go_skip | go_guarded | go_step | go_upon)
    have hAr := heap_alloc_new w (.cells #[.slice iv il ic, .slice jv jl jc, .slice mo nm mc, .int .i64 pr, .int .i64 fo, .bool ba, .bool fa] 39)
    have hA0 : Below w.heap.size w (w.alloc (.cells #[.slice iv il ic, .slice jv jl jc, .slice mo nm mc, .int .i64 pr, .int .i64 fo, .bool ba, .bool fa] 39)) := (Below.refl _ _).alloc (Nat.le_refl _) _
    generalize w.alloc (.cells #[.slice iv il ic, .slice jv jl jc, .slice mo nm mc, .int .i64 pr, .int .i64 fo, .bool ba, .bool fa] 39) = wA at hA0 hAr ⊢
    refine (CW.out _ hA0).mono ?_
    rintro r w1 ⟨rfl, hb1⟩
    simp only []
    have B1 := Lib.hid (hA0.trans (hb1.mono hA0.size))
    have hrow := row_below hAr hb1
    have HRow := Lib.hid hrow
    have a0 := (B1.out.cell (p := ⟨g, o + m * 2, none⟩) HG.out).trans HC0.out
    have a1 := (B1.out.cell (p := ⟨g, o + m * 2 + 1, none⟩) HG.out).trans HC1.out
    obtain ⟨x0, x1, x2, x3, x4, x5, x6⟩ := cells7 hrow
    have hlw : w.heap.size < w1.heap.size := (Array.getElem?_eq_some_iff.1 hrow).1
    clear hAr hA0 hb1 hrow
    repeat (first | go_skip | go_guarded | go_step | go_upon)
    have hbL : Below w1.heap.size w1 (w1.alloc (.cells #[.string ⟨lp.toArray⟩, .int .i64 ld] 51)) := (Below.refl _ _).alloc (Nat.le_refl _) _
    have hLr := heap_alloc_new w1 (.cells #[.string ⟨lp.toArray⟩, .int .i64 ld] 51)
    generalize w1.alloc (.cells #[.string ⟨lp.toArray⟩, .int .i64 ld] 51) = wL at hbL hLr ⊢
    have BL : Hid (Below w.heap.size w wL) := Lib.hid (B1.out.trans (hbL.mono B1.out.size))
    have RowP := Lib.hid (row_below HRow.out hbL)
    have RowL := Lib.hid hLr
    clear a0 a1 x0 x1 x2 x3 x4 x5 x6 hbL hLr hlw
    refine (CM.out _ BL.out).mono ?_
    rintro r w2 ⟨u2, c2, rfl, hl2, -, hc2, hb2⟩
    simp only []
    have B2 := Lib.hid (BL.out.trans (hb2.mono BL.out.size))
    have HL2 := Lib.hid hl2
    have hrow2 := row_below RowP.out hb2
    have RowP2 := Lib.hid hrow2
    have RowL2 := Lib.hid (row_below RowL.out hb2)
    clear hl2 hc2 hb2
    repeat (first | go_skip | go_guarded | go_step | go_upon)
    refine wp_region_noPanic ?_
    with_reducible refine QT.region_mix (S := fun W' => W'.heap[w.heap.size]? = some (.cells #[.slice iv il ic, .slice jv jl jc, .slice mo nm mc, .int .i64 pr, .int .i64 fo, .bool ba, .bool fa] 39 (0, 0))) [(true, 0), (true, 1), (true, 2), (true, 3), (true, 4), (false, 5), (true, 6), (true, 7), (true, 8), (true, 9), (true, 10), (true, 11)] 12 (by kernel_rfl) (by kernel_rfl) ?_ ?_ ?_
    · exact fun _ _ _ _ _ h => h
    · exact hrow2
    intro _
    simp only [QT.pickM, List.filterMap_cons, List.filterMap_nil, List.getElem?_cons_succ, List.getElem?_cons_zero, Option.map_some, List.drop_succ_cons, List.drop_zero]
    iterate 4 (refine QT.wpMix_take _ (by rfl) (by intro w' hSw; obtain ⟨x0, x1, x2, x3, x4, x5, x6⟩ := cells7 hSw; go_simp; first | done | rfl) ?_; try simp only [Act.put, List.setIfInBounds_toArray, List.set_cons_zero, List.set_cons_succ])
    refine QT.wpMix_take (.slice (some ⟨g, o, none⟩) m cc) (by rfl) (by intro w' hSw; go_simp; trace_state; first | done | rfl) ?_
    try simp only [Act.put, List.setIfInBounds_toArray, List.set_cons_zero, List.set_cons_succ]
    intro K' hK
    rw [if_pos (by rfl)]
    go_simp
    have BD2 : Hid (Below w.heap.size w w2.drew) := Lib.hid (B2.out.trans ((Below.refl _ _).drew.mono B2.out.size))
    refine (CN.out _ BD2.out).mono ?_
    rintro r w3 ⟨u3, c3, rfl, hl3, -, hc3, hb3⟩
    simp only []
    have hb23 : Below w2.heap.size w2 w3 := (Below.refl _ _).drew.trans hb3
    refine hK.out _ _ (row_below hrow2 hb23) ?_
    clear hK K'
    try simp only [Act.put, List.setIfInBounds_toArray, List.set_cons_zero, List.set_cons_succ]
    iterate 6 (refine QT.wpMix_take _ (by rfl) (by intro w' hSw; go_simp; first | done | rfl) ?_; try simp only [Act.put, List.setIfInBounds_toArray, List.set_cons_zero, List.set_cons_succ])
    refine QT.wpMix_nil ?_
    have B3 := Lib.hid (B2.out.trans (hb23.mono B2.out.size))
    have B3' : Hid (Below w3.heap.size w3 w3) := Lib.hid (Below.refl _ _)
    have HL3 := Lib.hid hl3
    have HL2 := Lib.hid (HL2.out.below hb23)
    have RowL3 := Lib.hid (row_below RowL2.out hb23)
    clear hb23 hb3 hl3 hc3 hrow2
    repeat (first | go_skip | go_guarded | go_step | go_upon)
    refine NoPanic.normal ?_
    by_cases hE : PE1 = 0
    · have hE' : (makeL s items (cs0 ++ [(lp, ld)])).2.2 = 0 := by rw [HP1.out]; exact hE
      obtain ⟨ok1, ok2⟩ := make_ok hE'
      obtain ⟨ok3, ok4⟩ := less_ok ok2
      have HF := Lib.hid ok4
      have e1 : makeL s items (cs0 ++ [(lp, ld)]) = (doneL s (cs0 ++ [(lp, ld)]) items, 0, 0) := by unfold makeL; rw [ok1, ok2]
      have e2 : makeL s items cs0 = (doneL s cs0 items, 0, 0) := by unfold makeL; rw [ok1, ok3]
      rw [HP1.out] at e1
      rw [HP2.out] at e2
      simp only [Prod.mk.injEq] at e1 e2
      obtain ⟨e11, -, -⟩ := e1
      obtain ⟨e21, -, e23⟩ := e2
      subst hE e23
      have hk1 : PL1.length = (keptL items).length := by rw [e11, done_klen]
      have hk2 : PL2.length = (keptL items).length := by rw [e21, done_klen]
      obtain ⟨q, hq⟩ : ∃ q, (keptL items).length = q := ⟨_, rfl⟩
      rw [hq] at hk1 hk2
      have HQ := Lib.hid hq
      have HK1 := Lib.hid hk1
      have HK2 := Lib.hid hk2
      have HE1 := Lib.hid e11
      have HE2 := Lib.hid e21
      have hql : q ≤ 1048576 := by
        have := List.length_filter_le (fun i : Pi => decide (i.2 ≠ 1)) items
        unfold keptL at hq
        rw [hq, HN.out] at this
        omega
      rw [hk1, hk2]
      clear ok1 ok2 ok3 ok4 e11 e21 hk1 hk2 hq hE'
      repeat (first | go_skip | go_guarded | go_step | go_upon)
      go_loopw [15, 62] (fun _ s62 wr => ∃ i : Nat, s62 = .int .i64 i ∧ i ≤ q ∧ Below w3.heap.size w3 wr) (fun _ s62 _ => q - (Go.RowKit.intOf s62).toNat)
      case atStart => exact ⟨0, rfl, Nat.zero_le _, Below.refl _ _⟩
      case round =>
        obtain ⟨i, rfl, hi, hb⟩ := hrel
        have HB := Lib.hid hb
        clear hb
        by_cases hlt : i < q
        · have hiz : (i : Int) < q := by omega
          obtain ⟨⟨xp, xv⟩, hx⟩ : ∃ x, (keptL items)[i]? = some x := ⟨(keptL items)[i]'(by rw [HQ.out]; exact hlt), List.getElem?_eq_getElem _⟩
          have h1 := done_kept s (cs0 ++ [(lp, ld)]) items hx
          have h2 := done_kept s cs0 items hx
          rw [← HE1.out] at h1
          rw [← HE2.out] at h2
          obtain ⟨g1, o1, rfl, hg1, hcc1⟩ := (HL2.out.below HB.out) (by rw [HK1.out]; omega)
          obtain ⟨g2, o2, rfl, hg2, hcc2⟩ := (HL3.out.below HB.out) (by rw [HK2.out]; omega)
          obtain ⟨a0, a1⟩ := hcc1 i _ h1
          obtain ⟨b0, b1⟩ := hcc2 i _ h2
          simp only at a0 a1 b0 b1
          unfold txt at a0 b0
          obtain ⟨l0, l1⟩ := cells2 (row_below RowL3.out HB.out)
          have A0 := Lib.hid a0
          have B0 := Lib.hid b0
          have L0 := Lib.hid l0
          have L1 := Lib.hid l1
          have hcmp := str_eqL xp lp
          clear hcc1 hcc2 h1 h2 hx l0 l1 a0 b0
          by_cases hxl : xp = lp
          · rw [decide_eq_true hxl] at hcmp
            have hs1 := settle_this s cs0 (lp, ld) (xp, xv) hxl HF.out
            simp only at hs1
            rw [hs1] at a1
            obtain ⟨E, hE2⟩ : ∃ E, settleL s cs0 (xp, xv) = E := ⟨_, rfl⟩
            rw [hE2] at b1
            have B1' := Lib.hid b1
            clear hs1 hE2 b1
            by_cases h4 : ld = 4
            · subst h4
              rw [if_pos rfl] at a1
              rcases dirI_two xv with hd | hd
              · rw [hd] at a1
                have A1 := Lib.hid a1
                clear hd a1
                have a0 : wr.cell? ⟨g1, o1 + i * 2, none⟩ = some (.string ⟨xp.toArray⟩) := A0.out
                have a1 : wr.cell? ⟨g1, o1 + i * 2 + 1, none⟩ = some (.int .i64 1) := A1.out
                have b0 : wr.cell? ⟨g2, o2 + i * 2, none⟩ = some (.string ⟨xp.toArray⟩) := B0.out
                have b1 : wr.cell? ⟨g2, o2 + i * 2 + 1, none⟩ = some (.int .i64 E) := B1'.out
                have l0 : wr.cell? ⟨w1.heap.size, 0, none⟩ = some (.string ⟨lp.toArray⟩) := L0.out
                have l1 : wr.cell? ⟨w1.heap.size, 1, none⟩ = some (.int .i64 4) := L1.out
                repeat (first | go_skip | go_guarded | go_step | go_upon)
                go_quiet (fail)
                rename_i nq
                have HB5 : Hid (Below w3.heap.size w3 (wr.drewN nq)) := Lib.hid ⟨HB.out.os, HB.out.tape, HB.out.output, HB.out.size, HB.out.block⟩
                clear a0 a1 b0 b1 l0 l1
                have a0 : (wr.drewN nq).cell? ⟨g1, o1 + i * 2, none⟩ = some (.string ⟨xp.toArray⟩) := A0.out
                have a1 : (wr.drewN nq).cell? ⟨g1, o1 + i * 2 + 1, none⟩ = some (.int .i64 1) := A1.out
                have b0 : (wr.drewN nq).cell? ⟨g2, o2 + i * 2, none⟩ = some (.string ⟨xp.toArray⟩) := B0.out
                have b1 : (wr.drewN nq).cell? ⟨g2, o2 + i * 2 + 1, none⟩ = some (.int .i64 E) := B1'.out
                have l0 : (wr.drewN nq).cell? ⟨w1.heap.size, 0, none⟩ = some (.string ⟨lp.toArray⟩) := L0.out
                have l1 : (wr.drewN nq).cell? ⟨w1.heap.size, 1, none⟩ = some (.int .i64 4) := L1.out
                generalize wr.drewN nq = w5 at HB5 a0 a1 b0 b1 l0 l1 ⊢
                repeat (first | go_skip | go_guarded | go_step | go_upon)
                go_quiet (fail)
                rename_i nq
                have HB6 : Hid (Below w3.heap.size w3 (w5.drewN nq)) := Lib.hid ⟨HB5.out.os, HB5.out.tape, HB5.out.output, HB5.out.size, HB5.out.block⟩
                repeat (first | go_skip | go_guarded | go_step | go_upon)
                exact ⟨⟨i + 1, by go_num, by omega, HB6.out⟩, by simp [Go.RowKit.intOf]; omega⟩
              · rw [hd] at a1
                have A1 := Lib.hid a1
                clear hd a1
                have a0 : wr.cell? ⟨g1, o1 + i * 2, none⟩ = some (.string ⟨xp.toArray⟩) := A0.out
                have a1 : wr.cell? ⟨g1, o1 + i * 2 + 1, none⟩ = some (.int .i64 2) := A1.out
                have b0 : wr.cell? ⟨g2, o2 + i * 2, none⟩ = some (.string ⟨xp.toArray⟩) := B0.out
                have b1 : wr.cell? ⟨g2, o2 + i * 2 + 1, none⟩ = some (.int .i64 E) := B1'.out
                have l0 : wr.cell? ⟨w1.heap.size, 0, none⟩ = some (.string ⟨lp.toArray⟩) := L0.out
                have l1 : wr.cell? ⟨w1.heap.size, 1, none⟩ = some (.int .i64 4) := L1.out
                repeat (first | go_skip | go_guarded | go_step | go_upon)
                go_quiet (fail)
                rename_i nq
                have HB5 : Hid (Below w3.heap.size w3 (wr.drewN nq)) := Lib.hid ⟨HB.out.os, HB.out.tape, HB.out.output, HB.out.size, HB.out.block⟩
                clear a0 a1 b0 b1 l0 l1
                have a0 : (wr.drewN nq).cell? ⟨g1, o1 + i * 2, none⟩ = some (.string ⟨xp.toArray⟩) := A0.out
                have a1 : (wr.drewN nq).cell? ⟨g1, o1 + i * 2 + 1, none⟩ = some (.int .i64 2) := A1.out
                have b0 : (wr.drewN nq).cell? ⟨g2, o2 + i * 2, none⟩ = some (.string ⟨xp.toArray⟩) := B0.out
                have b1 : (wr.drewN nq).cell? ⟨g2, o2 + i * 2 + 1, none⟩ = some (.int .i64 E) := B1'.out
                have l0 : (wr.drewN nq).cell? ⟨w1.heap.size, 0, none⟩ = some (.string ⟨lp.toArray⟩) := L0.out
                have l1 : (wr.drewN nq).cell? ⟨w1.heap.size, 1, none⟩ = some (.int .i64 4) := L1.out
                generalize wr.drewN nq = w5 at HB5 a0 a1 b0 b1 l0 l1 ⊢
                repeat (first | go_skip | go_guarded | go_step | go_upon)
                go_quiet (fail)
                rename_i nq
                have HB6 : Hid (Below w3.heap.size w3 (w5.drewN nq)) := Lib.hid ⟨HB5.out.os, HB5.out.tape, HB5.out.output, HB5.out.size, HB5.out.block⟩
                repeat (first | go_skip | go_guarded | go_step | go_upon)
                exact ⟨⟨i + 1, by go_num, by omega, HB6.out⟩, by simp [Go.RowKit.intOf]; omega⟩
            · rw [if_neg h4] at a1
              have A1 := Lib.hid a1
              have z4 : (ld != 4) = true := by simpa using h4
              have z5 : (ld == 4) = false := by simpa using h4
              have z6 : (ld != ld) = false := by simp
              clear a1 h4
              have a0 : wr.cell? ⟨g1, o1 + i * 2, none⟩ = some (.string ⟨xp.toArray⟩) := A0.out
              have a1 : wr.cell? ⟨g1, o1 + i * 2 + 1, none⟩ = some (.int .i64 ld) := A1.out
              have b0 : wr.cell? ⟨g2, o2 + i * 2, none⟩ = some (.string ⟨xp.toArray⟩) := B0.out
              have b1 : wr.cell? ⟨g2, o2 + i * 2 + 1, none⟩ = some (.int .i64 E) := B1'.out
              have l0 : wr.cell? ⟨w1.heap.size, 0, none⟩ = some (.string ⟨lp.toArray⟩) := L0.out
              have l1 : wr.cell? ⟨w1.heap.size, 1, none⟩ = some (.int .i64 ld) := L1.out
              repeat (first | go_skip | go_guarded | go_step | go_upon)
              go_quiet (fail)
              rename_i nq
              have HB5 : Hid (Below w3.heap.size w3 (wr.drewN nq)) := Lib.hid ⟨HB.out.os, HB.out.tape, HB.out.output, HB.out.size, HB.out.block⟩
              clear a0 a1 b0 b1 l0 l1
              have a0 : (wr.drewN nq).cell? ⟨g1, o1 + i * 2, none⟩ = some (.string ⟨xp.toArray⟩) := A0.out
              have a1 : (wr.drewN nq).cell? ⟨g1, o1 + i * 2 + 1, none⟩ = some (.int .i64 ld) := A1.out
              have b0 : (wr.drewN nq).cell? ⟨g2, o2 + i * 2, none⟩ = some (.string ⟨xp.toArray⟩) := B0.out
              have b1 : (wr.drewN nq).cell? ⟨g2, o2 + i * 2 + 1, none⟩ = some (.int .i64 E) := B1'.out
              have l0 : (wr.drewN nq).cell? ⟨w1.heap.size, 0, none⟩ = some (.string ⟨lp.toArray⟩) := L0.out
              have l1 : (wr.drewN nq).cell? ⟨w1.heap.size, 1, none⟩ = some (.int .i64 ld) := L1.out
              generalize wr.drewN nq = w5 at HB5 a0 a1 b0 b1 l0 l1 ⊢
              repeat (first | go_skip | go_guarded | go_step | go_upon)
              go_quiet (fail)
              rename_i nq
              have HB6 : Hid (Below w3.heap.size w3 (w5.drewN nq)) := Lib.hid ⟨HB5.out.os, HB5.out.tape, HB5.out.output, HB5.out.size, HB5.out.block⟩
              repeat (first | go_skip | go_guarded | go_step | go_upon)
              exact ⟨⟨i + 1, by go_num, by omega, HB6.out⟩, by simp [Go.RowKit.intOf]; omega⟩
          · rw [decide_eq_false hxl] at hcmp
            have hcmp2 : (xp == lp) = false := by simpa using hxl
            have hs1 := settle_other s cs0 (lp, ld) (xp, xv) hxl
            obtain ⟨E, hE2⟩ : ∃ E, settleL s cs0 (xp, xv) = E := ⟨_, rfl⟩
            rw [hs1, hE2] at a1
            rw [hE2] at b1
            have A1 := Lib.hid a1
            have B1' := Lib.hid b1
            have he := fun W => eq_ch (xp, E) (xp, E) W
            unfold txt at he
            simp only [decide_true] at he
            clear hs1 hE2 b1 a1 hxl
            have a0 : wr.cell? ⟨g1, o1 + i * 2, none⟩ = some (.string ⟨xp.toArray⟩) := A0.out
            have a1 : wr.cell? ⟨g1, o1 + i * 2 + 1, none⟩ = some (.int .i64 E) := A1.out
            have b0 : wr.cell? ⟨g2, o2 + i * 2, none⟩ = some (.string ⟨xp.toArray⟩) := B0.out
            have b1 : wr.cell? ⟨g2, o2 + i * 2 + 1, none⟩ = some (.int .i64 E) := B1'.out
            have l0 : wr.cell? ⟨w1.heap.size, 0, none⟩ = some (.string ⟨lp.toArray⟩) := L0.out
            have l1 : wr.cell? ⟨w1.heap.size, 1, none⟩ = some (.int .i64 ld) := L1.out
            repeat (first | go_skip | go_guarded | go_step | go_upon)
            go_quiet (fail)
            rename_i nq
            have HB5 : Hid (Below w3.heap.size w3 (wr.drewN nq)) := Lib.hid ⟨HB.out.os, HB.out.tape, HB.out.output, HB.out.size, HB.out.block⟩
            clear a0 a1 b0 b1 l0 l1
            have a0 : (wr.drewN nq).cell? ⟨g1, o1 + i * 2, none⟩ = some (.string ⟨xp.toArray⟩) := A0.out
            have a1 : (wr.drewN nq).cell? ⟨g1, o1 + i * 2 + 1, none⟩ = some (.int .i64 E) := A1.out
            have b0 : (wr.drewN nq).cell? ⟨g2, o2 + i * 2, none⟩ = some (.string ⟨xp.toArray⟩) := B0.out
            have b1 : (wr.drewN nq).cell? ⟨g2, o2 + i * 2 + 1, none⟩ = some (.int .i64 E) := B1'.out
            have l0 : (wr.drewN nq).cell? ⟨w1.heap.size, 0, none⟩ = some (.string ⟨lp.toArray⟩) := L0.out
            have l1 : (wr.drewN nq).cell? ⟨w1.heap.size, 1, none⟩ = some (.int .i64 ld) := L1.out
            generalize wr.drewN nq = w5 at HB5 a0 a1 b0 b1 l0 l1 ⊢
            repeat (first | go_skip | go_guarded | go_step | go_upon)
            go_quiet (fail)
            rename_i nq
            have HB6 : Hid (Below w3.heap.size w3 (w5.drewN nq)) := Lib.hid ⟨HB5.out.os, HB5.out.tape, HB5.out.output, HB5.out.size, HB5.out.block⟩
            repeat (first | go_skip | go_guarded | go_step | go_upon)
            exact ⟨⟨i + 1, by go_num, by omega, HB6.out⟩, by simp [Go.RowKit.intOf]; omega⟩
        · obtain rfl : i = q := by omega
          repeat (first | go_skip | go_guarded | go_step | go_upon)
          go_ret
          exact ⟨rfl, B3.out.trans (HB.out.mono B3.out.size)⟩
    · have hE' : (makeL s items (cs0 ++ [(lp, ld)])).2.2 ≠ 0 := by rw [HP1.out]; exact hE
      have e1 := make_err hE'
      rw [HP1.out] at e1
      simp only at e1
      subst e1
      have zE : (PE1 != 0) = true := by simpa using hE
      clear hE hE'
      repeat (first | go_skip | go_guarded | go_step | go_upon)
      go_ret
      exact ⟨rfl, B3.out⟩
end PR
end Go.Proofs.YtechekdiadpmoaaDoor
