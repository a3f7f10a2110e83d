/- Layer 13: the walk of PlanMore. -/
import Derived.Test.YtechekdiadpmoaaDoorQPlCho
import Derived.Test.YtechekdiadpmoaaDoorQPlRs
import Derived.Test.YtechekdiadpmoaaDoorQQForkI
set_option linter.all false
set_option maxRecDepth 100000
set_option maxHeartbeats 25600000
namespace Go.Proofs.YtechekdiadpmoaaDoor
open Go.RowKit Go.Lib Go.Maps Go.BigFrame
namespace PR
open OM TM PL PM PB

theorem infoIt : (Tryd.prog.info? 34).map (fun i => (i.zero, i.size, i.bytes)) = some (some (.agg #[.string ⟨#[]⟩, .int .i64 0]), 2, 24) := by kernel_rfl
theorem pl_cell {W : World} {g o : Nat} {l : List Pi} (h : ∀ (k : Nat) (e : Pi), l[k]? = some e → W.cell? ⟨g, o + k * 2, none⟩ = some (txt e.1) ∧ W.cell? ⟨g, o + k * 2 + 1, none⟩ = some (.int .i64 e.2)) : ∀ (j : Nat) (u : Value), (plC l)[j]? = some u → W.cell? ((⟨g, o, none⟩ : Addr).add j) = some u := by
  intro j u hu
  have hj := (List.getElem?_eq_some_iff.1 hu).1
  rw [plC_len] at hj
  obtain ⟨k, r, e, hr⟩ : ∃ k r, j = k * 2 + r ∧ r < 2 := ⟨j / 2, j % 2, by omega, by omega⟩
  have hk : k < l.length := by omega
  obtain ⟨x, hx⟩ : ∃ x, l[k]? = some x := ⟨l[k], List.getElem?_eq_getElem hk⟩
  have ha := plC_at l k x hx
  have hc := h k x hx
  have e1 : (⟨g, o, none⟩ : Addr).add j = ⟨g, o + j, none⟩ := by simp [Addr.add]
  rw [e1]
  rcases (show r = 0 ∨ r = 1 by omega) with e2 | e2
  · subst e2
    rw [e, Nat.add_zero] at hu ⊢
    rw [ha.1] at hu
    exact hc.1.trans hu
  · subst e2
    rw [e] at hu ⊢
    rw [ha.2] at hu
    rw [← Nat.add_assoc]
    exact hc.2.trans hu
theorem pl_one (l : List Pi) : ∀ u ∈ plC l, u.oneCell' = true := by
  intro u hu
  obtain ⟨x, _, hx⟩ := List.mem_flatMap.1 hu
  simp only [List.mem_cons, List.not_mem_nil, or_false] at hx
  rcases hx with rfl | rfl <;> rfl
/-- A list of items appended to an empty one of the call's own. -/
theorem run_copyP (W : World) (base : Nat) (ao : Option Addr) (cap n : Nat) (l : List Pi) (v : Value) (hl : LayP W ao l) (hown : W.ownsRow base 34 2 v 0 []) (hb : base ≤ W.heap.size) (hn : l.length ≤ 1048576) (hnn : l.length = n) :
    ∃ v' w', (Builtin.append_ #[26, 26] 26 #[v, .slice ao n cap]).run Tryd.prog W = .ok v' w' ∧ w'.ownsRow base 34 2 v' n (plC l) ∧ W.grownBy w' v.ownBlock := by
  obtain ⟨i1, hi1, hy0, hy1, hy2⟩ := info_parts infoIt
  subst hnn
  by_cases h0 : 0 < l.length
  · obtain ⟨g, o, e, hlt, hc⟩ := hl h0
    subst e
    obtain ⟨v', w', h1, h2, h3, -⟩ := run_append_own (P := Tryd.prog) W base 26 26 34 i1 _ 2 24 Tryd.underlying26 hi1 hy0 hy1 hy2 rfl (by decide) v 0 [] hown ⟨g, o, none⟩ l.length cap (plC l) (plC_len l) (pl_cell hc) (pl_one l) (by unfold maxLen; omega) (by omega) hb
    rw [Nat.zero_add, List.nil_append] at h2
    exact ⟨v', w', h1, h2, h3⟩
  · obtain rfl : l = [] := by cases l with | nil => rfl | cons _ _ => simp at h0
    cases ao with
    | some a0 =>
      obtain ⟨v', w', h1, h2, h3, -⟩ := run_append_own (P := Tryd.prog) W base 26 26 34 i1 _ 2 24 Tryd.underlying26 hi1 hy0 hy1 hy2 rfl (by decide) v 0 [] hown a0 0 cap [] rfl (fun j u hu => by simp at hu) (fun u hu => by simp at hu) (by unfold maxLen; omega) (by omega) hb
      exact ⟨v', w', h1, h2, h3⟩
    | none =>
      refine ⟨v, W, ?_, hown, ⟨rfl, rfl, rfl, Nat.le_refl _, fun _ _ _ => rfl⟩⟩
      show (Builtin.append_ #[26, 26] 26 #[v, .slice none 0 cap]).run Tryd.prog W = .ok v W
      rcases hown.2 with ⟨rfl, h4⟩ | ⟨g, cap', cur, rfl, _, _, hnc, _⟩
      · simp [Builtin.append_, run_underlying Tryd.underlying26, sizeOf, typeInfo, hi1, Builtin.lenOf, Builtin.firstCells]
      · simp [Builtin.append_, run_underlying Tryd.underlying26, sizeOf, typeInfo, hi1, Builtin.lenOf, Builtin.firstCells, hnc, storeCells]
theorem step_app_eq {P : Program} {w : World} {ops : Array Oper} {o : Oper} {a : Act} {K : Act → World → Prop} {Q : Exit → Act → World → Prop} {E : Prop} (hgd : o.guard = none) (s x : Operand) (t t2 : TypeId)
    (ho : o.op = .call { callee := .builtin .append, args := #[s, x], argTypes := #[t, t2] }) (u v : Value) (hs : a.eval s = u) (hx : a.eval x = v) {v' : Value} {w' : World}
    (hr : (Builtin.append_ #[t, t2] o.type #[u, v]).run P w = .ok v' w') (h : K (a.put o.dst v') w') : if Region.wanted o (yielded ops a.tmps) = true then Oper.wp P o a w K Q else E := by
  have hw : Region.wanted o (yielded ops a.tmps) = true := by simp [Region.wanted, hgd]
  rw [if_pos hw]
  unfold Oper.wp execOp
  simp only [ho, resolve, invoke, builtin, Sem.run_bind, Sem.run_pure, Result.andThen_ok, List.map_toArray, List.map_cons, List.map_nil, hs, hx, hr]
  exact h
theorem LayP.first {W : World} {ao : Option Addr} {a b : List Pi} (h : LayP W ao (a ++ b)) : LayP W ao a := fun h0 => by
  obtain ⟨g, o, e, hg, hc⟩ := h (by rw [List.length_append]; omega)
  exact ⟨g, o, e, hg, fun i x hx => hc i x (by rw [List.getElem?_append_left (List.getElem?_eq_some_iff.1 hx).1]; exact hx)⟩
theorem make_more (s : Say) (items : List Pi) (x : Pi) {PL1 PL2 : List Pi} {PN1 PN2 : Nat} {PE1 PE2 : Int} (h1 : makeL s items [] = (PL1, PN1, PE1)) (h2 : makeL s (items ++ [x]) [] = (PL2, PN2, PE2)) :
    (PE1 = 91 ∧ PE2 = 91) ∨ (PE1 = 0 ∧ PE2 = 91 ∧ PN2 = items.length ∧ PL2 = []) ∨ (PE1 = 0 ∧ PE2 = 0 ∧ PL2 = PL1 ++ (if x.2 = 1 then [] else [(x.1, settleL s [] x)]) ∧ PL1.length ≤ items.length) := by
  rw [make_nil] at h1 h2
  rw [badI_snoc] at h2
  cases hb : badI [] items with
  | some k =>
    rw [hb] at h1 h2
    simp only [Prod.mk.injEq] at h1 h2
    exact .inl ⟨h1.2.2.symm, h2.2.2.symm⟩
  | none =>
    rw [hb] at h1 h2
    simp only [Prod.mk.injEq, List.nil_append, List.length_nil, Nat.zero_add] at h1 h2
    by_cases hc : isWhatB x.2 = true ∧ findP items x.1 = none
    · rw [if_pos hc] at h2
      simp only [Prod.mk.injEq] at h2
      refine .inr (.inr ⟨h1.2.2.symm, h2.2.2.symm, ?_, by rw [← h1.1]; exact done_len s [] items⟩)
      rw [← h1.1, ← h2.1]
      unfold doneL
      rw [List.filter_append, List.map_append]
      congr 1
      by_cases h : x.2 = 1 <;> simp [h]
    · rw [if_neg hc] at h2
      simp only [Prod.mk.injEq] at h2
      exact .inr (.inl ⟨h1.2.2.symm, h2.2.2.symm, h2.2.1.symm, h2.1.symm⟩)
set_option maxRecDepth 100000 in
set_option maxHeartbeats 12800000 in
theorem more_law (iv : Option Addr) (il ic : Nat) (jv : Option Addr) (jl jc : Nat) (mo : Option Addr) (mc : Nat) (M : List Pm) (pr fo : Int) (ba fa : Bool) (ao : Option Addr) (ca : Nat) (items : List Pi) (x : Pi) (w : World) (he : NF.Env w) (hM : ArgM w mo mc M) (hI : ArgP w ao ca items) (hx : x.1.length ≤ 1048576) (hlen : items.length + 1 ≤ 1048576) :
    Calls Tryd.prog 9 #[.slice ao items.length ca, profV (.slice iv il ic) (.slice jv jl jc) mo M.length mc pr fo ba fa, itV x] w fun r w' => r = .returned (.bool true) ∧ Below w.heap.size w w' := by
  have CW : Hid (∀ W, Below w.heap.size w W → Calls Tryd.prog 15 #[] W fun r w' => r = .returned (.bool true) ∧ Below W.heap.size W w') := Lib.hid (fun W hW => awake_any W (he.below hW))
  have CM : Hid (∀ W, Below w.heap.size w W → Calls Tryd.prog 16 #[.slice ao items.length ca, profV (.slice iv il ic) (.slice jv jl jc) mo M.length mc pr fo ba fa, .slice none 0 0] W (MakePost (makeL ⟨fo, pr, ba, fun q => decide (progL M q ≠ [])⟩ items []) W)) := Lib.hid (fun W hW => make_any iv il ic jv jl jc mo mc M pr fo ba fa ao ca items none 0 [] W (he.below hW) (hM.below hW) (hI.below hW) (ArgP.nil _))
  have CN : Hid (∀ W base a2 c2, Below w.heap.size w W → W.ownsRow base 34 2 (.slice a2 (items.length + 1) c2) (items.length + 1) (plC (items ++ [x])) → Calls Tryd.prog 16 #[.slice a2 (items.length + 1) c2, profV (.slice iv il ic) (.slice jv jl jc) mo M.length mc pr fo ba fa, .slice none 0 0] W (MakePost (makeL ⟨fo, pr, ba, fun q => decide (progL M q ≠ [])⟩ (items ++ [x]) []) W)) := Lib.hid (fun W base a2 c2 hW ho => by
    have hl : (items ++ [x]).length = items.length + 1 := by rw [List.length_append]; rfl
    rw [← hl] at ho ⊢
    obtain ⟨a3, c3, e, hl3⟩ := lay_pl ho
    injection e with e1 e2 e3
    subst e1 e3
    have hcap : (a2 = none → c2 = 0) ∧ (items ++ [x]).length ≤ c2 := by
      rcases ho.2 with ⟨e1, e2⟩ | ⟨g, cap, cur, e1, _, _, hcap, _, _⟩
      · rw [hl] at e2; omega
      · injection e1 with e1 e3 e4
        subst e1
        rw [e4]
        exact ⟨(fun e => by cases e), hcap⟩
    refine make_any iv il ic jv jl jc mo mc M pr fo ba fa a2 c2 (items ++ [x]) none 0 [] W (he.below hW) (hM.below hW) ⟨hl3, hcap.1, hcap.2, by rw [hl]; exact hlen, fun y hy => ?_⟩ (ArgP.nil _)
    rcases List.mem_append.1 hy with hy | hy
    · exact hI.small y hy
    · rw [List.mem_singleton.1 hy]; exact hx)
  have HLay := Lib.hid hI.lay
  obtain ⟨s, hs⟩ : ∃ s : Say, (⟨fo, pr, ba, fun q => decide (progL M q ≠ [])⟩ : Say) = s := ⟨_, rfl⟩
  rw [hs] at CM CN
  obtain ⟨n, hn⟩ : ∃ n, items.length = n := ⟨_, rfl⟩
  have HN := Lib.hid hn
  obtain ⟨nm, hnm⟩ : ∃ nm, M.length = nm := ⟨_, rfl⟩
  rw [hn, hnm] at CM CN ⊢
  rw [hn] at hlen
  obtain ⟨⟨PL1, PN1, PE1⟩, hP1⟩ : ∃ P, makeL s items [] = P := ⟨_, rfl⟩
  obtain ⟨⟨PL2, PN2, PE2⟩, hP2⟩ : ∃ P, makeL s (items ++ [x]) [] = P := ⟨_, rfl⟩
  rw [hP1] at CM
  rw [hP2] at CN
  have HP1 := Lib.hid hP1
  have HP2 := Lib.hid hP2
  obtain ⟨xp, xw⟩ := x
  unfold profV at CM CN ⊢
  unfold itV
  unfold MakePost at CM CN
  simp only at CM CN ⊢
  clear he hM hI hx hn hnm hs hP1 hP2
  go_enter Tryd.func9, Tryd.ntmps9
  repeat (first | go_skip | go_guarded | go_step | go_upon)
  have hAr := heap_alloc_new w (.cells #[.slice iv il ic, .slice jv jl jc, .slice mo nm mc, .int .i64 pr, .int .i64 fo, .bool ba, .bool fa] 39)
  have hA0 : Below w.heap.size w (w.alloc (.cells #[.slice iv il ic, .slice jv jl jc, .slice mo nm mc, .int .i64 pr, .int .i64 fo, .bool ba, .bool fa] 39)) := (Below.refl _ _).alloc (Nat.le_refl _) _
  have hAs : (w.alloc (.cells #[.slice iv il ic, .slice jv jl jc, .slice mo nm mc, .int .i64 pr, .int .i64 fo, .bool ba, .bool fa] 39)).heap.size = w.heap.size + 1 := by simp
  generalize w.alloc (.cells #[.slice iv il ic, .slice jv jl jc, .slice mo nm mc, .int .i64 pr, .int .i64 fo, .bool ba, .bool fa] 39) = wA at hA0 hAr hAs ⊢
  have hBr := heap_alloc_new wA (.cells #[.string ⟨xp.toArray⟩, .int .i64 xw] 34)
  have hBb : Below wA.heap.size wA (wA.alloc (.cells #[.string ⟨xp.toArray⟩, .int .i64 xw] 34)) := (Below.refl _ _).alloc (Nat.le_refl _) _
  rw [hAs] at hBr
  generalize wA.alloc (.cells #[.string ⟨xp.toArray⟩, .int .i64 xw] 34) = wB at hBr hBb ⊢
  have hB0 : Below w.heap.size w wB := hA0.trans (hBb.mono hA0.size)
  refine (CW.out _ hB0).mono ?_
  rintro r w1 ⟨rfl, hb1⟩
  simp only []
  have B1 := Lib.hid (hB0.trans (hb1.mono hB0.size))
  have hrow := row_below (row_below hAr hBb) hb1
  have hrowI := row_below hBr hb1
  have RowP := Lib.hid hrow
  have RowI := Lib.hid hrowI
  obtain ⟨x0, x1, x2, x3, x4, x5, x6⟩ := cells7 hrow
  clear hAr hA0 hAs hBr hBb hB0 hb1 hrow hrowI
  repeat (first | go_skip | go_guarded | go_step | go_upon)
  refine (CM.out _ B1.out).mono ?_
  rintro r w2 ⟨u2, c2, rfl, hl2, -, hc2, hb2⟩
  simp only []
  have B2 := Lib.hid (B1.out.trans (hb2.mono B1.out.size))
  have HL2 := Lib.hid hl2
  have hrow2 := row_below RowP.out hb2
  have hrowI2 := row_below RowI.out hb2
  have HLay2 := Lib.hid (HLay.out.below B2.out)
  clear hl2 hb2 x0 x1 x2 x3 x4 x5 x6
  repeat (first | go_skip | go_guarded | go_step | go_upon)
  refine wp_region_noPanic ?_
  with_reducible refine QT.region_forkI (S := fun W' => W'.heap[w.heap.size]? = some (.cells #[.slice iv il ic, .slice jv jl jc, .slice mo nm mc, .int .i64 pr, .int .i64 fo, .bool ba, .bool fa] 39 (0, 0)) ∧ W'.heap[w.heap.size + 1]? = some (.cells #[.string ⟨xp.toArray⟩, .int .i64 xw] 34 (0, 0))) [1, 3, 6] 11 14 (by kernel_rfl) (by kernel_rfl) ?_ ?_ ?_
  · exact fun _ _ _ _ _ h => h
  · exact ⟨hrow2, hrowI2⟩
  intro _
  simp only [QT.pick, List.filterMap_cons, List.filterMap_nil, List.getElem?_cons_succ, List.getElem?_cons_zero, List.drop_succ_cons, List.drop_zero]
  iterate 3 (refine QT.wpTake_cons _ (by rfl) (by intro w' hSw; obtain ⟨x0, x1, x2, x3, x4, x5, x6⟩ := cells7 hSw.1; obtain ⟨y0, y1⟩ := cells2 hSw.2; go_simp; first | done | rfl) ?_; try simp only [Act.put, List.setIfInBounds_toArray, List.set_cons_zero, List.set_cons_succ])
  refine QT.wpTake_nil ?_
  have hS : ∀ wa : World, Below w2.heap.size w2 wa → wa.heap[w.heap.size]? = some (.cells #[.slice iv il ic, .slice jv jl jc, .slice mo nm mc, .int .i64 pr, .int .i64 fo, .bool ba, .bool fa] 39 (0, 0)) ∧ wa.heap[w.heap.size + 1]? = some (.cells #[.string ⟨xp.toArray⟩, .int .i64 xw] 34 (0, 0)) := fun wa hb => ⟨row_below hrow2 hb, row_below hrowI2 hb⟩
  have hMk : ∀ (wa : World) (a9 : Option Addr) (c9 : Nat), Below w2.heap.size w2 wa → wa.ownsRow w2.heap.size 34 2 (.slice a9 (n + 1) c9) (n + 1) (plC items ++ [txt xp, .int .i64 xw]) → Calls Tryd.prog 16 #[.slice a9 (n + 1) c9, .agg #[.slice iv il ic, .slice jv jl jc, .slice mo nm mc, .int .i64 pr, .int .i64 fo, .bool ba, .bool fa], .slice none 0 0] wa fun r w' => ∃ ao c, r = .returned (.tuple #[.slice ao PL2.length c, .int .i64 (PN2 : Nat), .int .i64 PE2]) ∧ LayP w' ao PL2 ∧ (ao = none → c = 0) ∧ PL2.length ≤ c ∧ Below wa.heap.size wa w' := by
    intro wa a9 c9 hb ho
    rw [← plC_snoc items (xp, xw)] at ho
    exact CN.out wa _ a9 c9 (B2.out.trans (hb.mono B2.out.size)) ho
  have hCopy : ∀ (wa : World) (g : Nat), Below w2.heap.size w2 wa → w2.heap.size ≤ g → wa.ownsRow w2.heap.size 34 2 (.slice (some ⟨g, 0, none⟩) 0 0) 0 [] → ∃ (a9 : Option Addr) (c9 : Nat) (w5 : World), (Builtin.append_ #[26, 26] 26 #[.slice (some ⟨g, 0, none⟩) 0 0, .slice ao n ca]).run Tryd.prog wa = .ok (.slice a9 n c9) w5 ∧ w5.ownsRow w2.heap.size 34 2 (.slice a9 n c9) n (plC items) ∧ Below w2.heap.size w2 w5 ∧ ∀ b, b ≠ g → b < wa.heap.size → w5.heap[b]? = wa.heap[b]? := by
    intro wa g hb hg ho
    obtain ⟨v', w5, h1, h2, h3⟩ := run_copyP wa w2.heap.size ao ca n items _ (HLay2.out.below hb) ho hb.size (by rw [HN.out]; omega) HN.out
    obtain ⟨a9, c9, hv, -⟩ := owns_view h2
    subst hv
    refine ⟨a9, c9, w5, h1, h2, hb.grown h3 hb.size (fun j hj => ?_), fun b hbg hbl => h3.block b hbl (fun e => ?_)⟩
    · have h4 : some g = some j := hj
      injection h4 with h4
      omega
    · have h4 : some g = some b := e.symm
      injection h4 with h4
      omega
  obtain ⟨i1, hi1, hy0, hy1, hy2⟩ := info_parts infoIt
  generalize hF : QT.ForkI Tryd.prog .any _ _ _ 14 _ = F
  have hEnd : ∀ (listed : Array Bool) (v24 : Value) (a9 : Option Addr) (c9 b2 : Nat) (w3 : World), Below w2.heap.size w2 w3 → w3.ownsRow w2.heap.size 34 2 (.slice a9 n c9) n (plC items) → w3.heap[b2]? = some (.cells #[.string ⟨xp.toArray⟩, .int .i64 xw] 34 (0, 0)) → listed = #[true, true, true, true, true, false, true, false, false, false, false, false, false, false, false] → F 8 listed ⟨#[.slice ao n ca, .agg #[.slice iv il ic, .slice jv jl jc, .slice mo nm mc, .int .i64 pr, .int .i64 fo, .bool ba, .bool fa], .agg #[.string ⟨xp.toArray⟩, .int .i64 xw], undef, .pointer (some ⟨w.heap.size, 0, none⟩), .pointer (some ⟨w.heap.size + 1, 0, none⟩), .bool false, .slice u2 PL1.length c2, .int .i64 (PN1 : Nat), .int .i64 PE1, undef, undef, undef, undef, .bool true, .bool false, .tuple #[.slice u2 PL1.length c2, .int .i64 (PN1 : Nat), .int .i64 PE1], .slice ao n ca, .agg #[.slice iv il ic, .slice jv jl jc, .slice mo nm mc, .int .i64 pr, .int .i64 fo, .bool ba, .bool fa], .tuple #[.slice u2 PL1.length c2, .int .i64 (PN1 : Nat), .int .i64 PE1], .slice u2 PL1.length c2, .int .i64 (PN1 : Nat), .int .i64 PE1, undef, v24, .slice ao n ca, .slice a9 n c9, .agg #[.string ⟨xp.toArray⟩, .int .i64 xw], .slice (some ⟨b2, 0, none⟩) 1 1, undef, .agg #[.slice iv il ic, .slice jv jl jc, .slice mo nm mc, .int .i64 pr, .int .i64 fo, .bool ba, .bool fa], undef, undef, undef, undef, undef, undef, undef, undef, undef, undef, undef, undef, undef, undef, undef, undef, undef, undef, undef, undef, undef, undef, undef, undef, undef, undef, undef, undef, undef, undef, undef, undef, undef, undef, undef, undef, undef, undef, undef], []⟩ w3 := by
    intro listed v24 a9 c9 b2 w3 hb hown hrow hls
    subst hF
    subst hls
    refine QT.forkI_one 5 _ (by rfl) (by kernel_rfl) ?_
    intro K' hK
    obtain ⟨v', w4, hrun, hown4, hgrow4, -⟩ := run_append_own (P := Tryd.prog) w3 w2.heap.size 26 26 34 i1 _ 2 24 Tryd.underlying26 hi1 hy0 hy1 hy2 rfl (by decide) (.slice a9 n c9) n (plC items) hown ⟨b2, 0, none⟩ 1 1 [txt xp, .int .i64 xw] rfl (fun j u hu => by
      obtain ⟨d0, d1⟩ := cells2 hrow
      match j, hu with
      | 0, hu => simp at hu; subst hu; exact d0
      | 1, hu => simp at hu; subst hu; exact d1) (by simp [Value.oneCell', txt]) (by unfold maxLen; omega) (by omega) hb.size
    obtain ⟨a10, c10, hv10, -⟩ := owns_view hown4
    subst hv10
    have hb4 : Below w2.heap.size w2 w4 := hb.grown hgrow4 hb.size (fun j hj => (hown.lt j hj).1)
    refine step_app_eq rfl (.tmp 26) (.tmp 28) 26 26 rfl (.slice a9 n c9) (.slice (some ⟨b2, 0, none⟩) 1 1) rfl rfl hrun ?_
    refine hK.out _ _ (hS _ hb4) ?_
    clear hK K' hrun hgrow4 hown hrow hb
    try simp only [Act.put, List.setIfInBounds_toArray, List.set_cons_zero, List.set_cons_succ]
    refine QT.forkI_one 7 _ (by rfl) (by kernel_rfl) ?_
    intro K' hK
    rw [if_pos (by rfl)]
    go_simp
    refine (hMk w4 a10 c10 hb4 hown4).mono ?_
    rintro r w5 ⟨u5, c5, rfl, hl5, -, hc5, hb5⟩
    simp only []
    have hb25 : Below w2.heap.size w2 w5 := hb4.trans (hb5.mono hb4.size)
    have HL5 := Lib.hid hl5
    have HC5 := Lib.hid hc5
    refine hK.out _ _ (hS _ hb25) ?_
    clear hK K' hl5 hc5 hb5 hown4 hb4
    try simp only [Act.put, List.setIfInBounds_toArray, List.set_cons_zero, List.set_cons_succ]
    refine QT.forkI_take 8 _ _ (by rfl) (by kernel_rfl) (fun _ _ _ _ _ h => h) (hS _ hb25) (by rfl) (by intro w' hSw; go_simp; first | done | rfl) ?_
    try simp only [Act.put, List.setIfInBounds_toArray, List.set_cons_zero, List.set_cons_succ]
    refine QT.forkI_take 9 _ _ (by rfl) (by kernel_rfl) (fun _ _ _ _ _ h => h) (hS _ hb25) (by rfl) (by intro w' hSw; go_simp; first | done | rfl) ?_
    try simp only [Act.put, List.setIfInBounds_toArray, List.set_cons_zero, List.set_cons_succ]
    refine QT.forkI_take 10 _ _ (by rfl) (by kernel_rfl) (fun _ _ _ _ _ h => h) (hS _ hb25) (by rfl) (by intro w' hSw; go_simp; first | done | rfl) ?_
    try simp only [Act.put, List.setIfInBounds_toArray, List.set_cons_zero, List.set_cons_succ]
    refine QT.forkI_take 11 _ _ (by rfl) (by kernel_rfl) (fun _ _ _ _ _ h => h) (hS _ hb25) (by rfl) (by intro w' hSw; go_simp; first | done | rfl) ?_
    try simp only [Act.put, List.setIfInBounds_toArray, List.set_cons_zero, List.set_cons_succ]
    refine QT.forkI_take 12 _ _ (by rfl) (by kernel_rfl) (fun _ _ _ _ _ h => h) (hS _ hb25) (by rfl) (by intro w' hSw; go_simp; first | done | rfl) ?_
    try simp only [Act.put, List.setIfInBounds_toArray, List.set_cons_zero, List.set_cons_succ]
    refine QT.forkI_take 13 _ _ (by rfl) (by kernel_rfl) (fun _ _ _ _ _ h => h) (hS _ hb25) (by rfl) (by intro w' hSw; go_simp; first | done | rfl) ?_
    try simp only [Act.put, List.setIfInBounds_toArray, List.set_cons_zero, List.set_cons_succ]
    refine QT.forkI_nil (by kernel_rfl) ?_
    have B5 := Lib.hid (B2.out.trans (hb25.mono B2.out.size))
    have HL25 := Lib.hid (HL2.out.below hb25)
    obtain ⟨q0, q1⟩ := cells2 (row_below hrowI2 hb25)
    clear hS hMk hCopy hb25
    try simp only [Act.put, List.setIfInBounds_toArray, List.set_cons_zero, List.set_cons_succ, List.drop_succ_cons, List.drop_zero]
    repeat (first | go_skip | go_guarded | go_step | go_upon)
    refine NoPanic.normal ?_
    rcases make_more s items (xp, xw) HP1.out HP2.out with ⟨e1, e2⟩ | ⟨e1, e2, e3, e4⟩ | ⟨e1, e2, e3, e4⟩
    · subst e1 e2
      repeat (first | go_skip | go_guarded | go_step | go_upon)
      go_ret
      exact ⟨by first | rfl | simp, B5.out⟩
    · rw [HN.out] at e3
      subst e1 e2 e3 e4
      repeat (first | go_skip | go_guarded | go_step | go_upon)
      go_ret
      exact ⟨by first | rfl | simp, B5.out⟩
    · subst e1 e2
      rw [HN.out] at e4
      simp only at e3
      obtain ⟨X, hX⟩ : ∃ X, (if xw = 1 then [] else [(xp, settleL s [] (xp, xw))]) = X := ⟨_, rfl⟩
      rw [hX] at e3
      subst e3
      have CS : Hid (∀ W, Below w5.heap.size w5 W → Calls Tryd.prog 18 #[.slice u5 PL1.length c5, .slice u2 PL1.length c2] W fun r w' => r = .returned (.bool true) ∧ Below W.heap.size W w') := Lib.hid (fun W hW => by
        have := rsame13_any u5 u2 c5 c2 PL1 PL1 W (LayP.first (HL5.out.below hW)) (HL25.out.below hW) (by omega) (by omega)
        rw [decide_eq_true rfl] at this
        exact this)
      have hc5 := HC5.out
      rw [List.length_append] at hc5
      rw [List.length_append]
      obtain ⟨k1, hk1⟩ : ∃ k1, PL1.length = k1 := ⟨_, rfl⟩
      rw [hk1] at CS hc5 e4 ⊢
      have hz5 : (k1 : Int) ≤ c5 := by omega
      by_cases h1 : xw = 1
      · rw [if_pos h1] at hX
        subst hX
        subst h1
        simp only [List.length_nil, Nat.add_zero]
        have hkk : ((k1 : Int) == k1) = true := by simp
        repeat (first | go_skip | go_guarded | go_step | go_upon)
        refine (CS.out _ (Below.refl _ _)).mono ?_
        rintro r w6 ⟨rfl, hb6⟩
        simp only []
        have B6 := Lib.hid (B5.out.trans (hb6.mono B5.out.size))
        repeat (first | go_skip | go_guarded | go_step | go_upon)
        go_ret
        exact ⟨by first | rfl | simp, B6.out⟩
      · rw [if_neg h1] at hX
        subst hX
        have z1 : (xw != 1) = true := by simpa using h1
        simp only [List.length_singleton]
        have hkk : (((k1 + 1 : Nat) : Int) == (k1 : Int) + 1) = true := by simp
        have hkk2 : (((k1 : Int) + 1) == (k1 : Int) + 1) = true := by simp
        have hw1 : wrap64 ((k1 : Int) + 1) = (k1 : Int) + 1 := by unfold wrap64; omega
        clear h1
        repeat (first | go_skip | go_guarded | go_step | go_upon)
        refine (CS.out _ (Below.refl _ _)).mono ?_
        rintro r w6 ⟨rfl, hb6⟩
        simp only []
        have B6 := Lib.hid (B5.out.trans (hb6.mono B5.out.size))
        repeat (first | go_skip | go_guarded | go_step | go_upon)
        go_ret
        exact ⟨by first | rfl | simp, B6.out⟩
  subst hF
  have hb3 : Below w2.heap.size w2 w2.drew := (Below.refl _ _).drew
  generalize w2.drew = W3 at hb3 ⊢
  have hEmp : ∀ wa : World, Below w2.heap.size w2 wa → (wa.alloc (.cells #[] 34)).ownsRow w2.heap.size 34 2 (.slice (some ⟨wa.heap.size, 0, none⟩) 0 0) 0 [] := fun wa hb => World.ownsRow_made (base := w2.heap.size) (e := 34) (size := 2) wa #[] 0 hb.size (Nat.zero_le _) rfl
  refine QT.forkI_two 0 4 _ _ (by rfl) (by rfl) (by kernel_rfl) ?_ ?_
  · intro K' hK
    rw [if_pos (by rfl)]
    go_simp
    have hbA := hb3.alloc hb3.size (.cells #[] 34)
    refine hK.out _ _ (hS _ hbA) ?_
    clear hK K'
    try simp only [Act.put, List.setIfInBounds_toArray, List.set_cons_zero, List.set_cons_succ]
    obtain ⟨a9, c9, w5, hrun, hown5, hb5, hk5⟩ := hCopy _ W3.heap.size hbA hb3.size (hEmp W3 hb3)
    refine QT.forkI_two 2 4 _ _ (by rfl) (by rfl) (by kernel_rfl) ?_ ?_
    · intro K' hK
      refine step_app_eq rfl (.tmp 24) (.tmp 25) 26 26 rfl (.slice (some ⟨W3.heap.size, 0, none⟩) 0 0) (.slice ao n ca) rfl rfl hrun ?_
      refine hK.out _ _ (hS _ hb5) ?_
      clear hK K'
      try simp only [Act.put, List.setIfInBounds_toArray, List.set_cons_zero, List.set_cons_succ]
      refine QT.forkI_one 4 _ (by rfl) (by kernel_rfl) ?_
      intro K' hK
      rw [if_pos (by rfl)]
      go_simp
      have hb6 := hb5.alloc hb5.size (.cells #[.string ⟨xp.toArray⟩, .int .i64 xw] 34)
      refine hK.out _ _ (hS _ hb6) ?_
      clear hK K'
      try simp only [Act.put, List.setIfInBounds_toArray, List.set_cons_zero, List.set_cons_succ]
      exact hEnd _ _ a9 c9 _ _ hb6 (hown5.alloc _) (heap_alloc_new w5 _) (by kernel_rfl)
    · intro K' hK
      clear hrun hown5 hb5 hk5
      rw [if_pos (by rfl)]
      go_simp
      have hbB := hbA.alloc hbA.size (.cells #[.string ⟨xp.toArray⟩, .int .i64 xw] 34)
      refine hK.out _ _ (hS _ hbB) ?_
      clear hK K'
      try simp only [Act.put, List.setIfInBounds_toArray, List.set_cons_zero, List.set_cons_succ]
      have hrB := heap_alloc_new (W3.alloc (.cells #[] 34)) (.cells #[.string ⟨xp.toArray⟩, .int .i64 xw] 34)
      obtain ⟨a9, c9, w5, hrun, hown5, hb5, hk5⟩ := hCopy _ W3.heap.size hbB hb3.size ((hEmp W3 hb3).alloc _)
      have hrC := (hk5 _ (by simp) (by simp)).trans hrB
      rw [World.size_alloc] at hrC
      refine QT.forkI_one 2 _ (by rfl) (by kernel_rfl) ?_
      intro K' hK
      refine step_app_eq rfl (.tmp 24) (.tmp 25) 26 26 rfl (.slice (some ⟨W3.heap.size, 0, none⟩) 0 0) (.slice ao n ca) rfl rfl hrun ?_
      refine hK.out _ _ (hS _ hb5) ?_
      clear hK K'
      try simp only [Act.put, List.setIfInBounds_toArray, List.set_cons_zero, List.set_cons_succ]
      exact hEnd _ _ a9 c9 _ _ hb5 hown5 hrC (by kernel_rfl)
  · intro K' hK
    rw [if_pos (by rfl)]
    go_simp
    have hbA := hb3.alloc hb3.size (.cells #[.string ⟨xp.toArray⟩, .int .i64 xw] 34)
    have hrA := heap_alloc_new W3 (.cells #[.string ⟨xp.toArray⟩, .int .i64 xw] 34)
    refine hK.out _ _ (hS _ hbA) ?_
    clear hK K'
    try simp only [Act.put, List.setIfInBounds_toArray, List.set_cons_zero, List.set_cons_succ]
    refine QT.forkI_one 0 _ (by rfl) (by kernel_rfl) ?_
    intro K' hK
    rw [if_pos (by rfl)]
    go_simp
    have hbB := hbA.alloc hbA.size (.cells #[] 34)
    have hrB := row_below hrA ((Below.refl _ _).alloc (Nat.le_refl _) (.cells #[] 34))
    have hEB := hEmp _ hbA
    rw [World.size_alloc] at hEB
    refine hK.out _ _ (hS _ hbB) ?_
    clear hK K'
    try simp only [Act.put, List.setIfInBounds_toArray, List.set_cons_zero, List.set_cons_succ]
    obtain ⟨a9, c9, w5, hrun, hown5, hb5, hk5⟩ := hCopy _ _ hbB (by have := hb3.size; omega) hEB
    have hrC := (hk5 _ (by simp) (by simp; omega)).trans hrB
    refine QT.forkI_one 2 _ (by rfl) (by kernel_rfl) ?_
    intro K' hK
    refine step_app_eq rfl (.tmp 24) (.tmp 25) 26 26 rfl (.slice (some ⟨W3.heap.size + 1, 0, none⟩) 0 0) (.slice ao n ca) rfl rfl hrun ?_
    refine hK.out _ _ (hS _ hb5) ?_
    clear hK K'
    try simp only [Act.put, List.setIfInBounds_toArray, List.set_cons_zero, List.set_cons_succ]
    exact hEnd _ _ a9 c9 _ _ hb5 hown5 hrC (by kernel_rfl)
end PR
end Go.Proofs.YtechekdiadpmoaaDoor
