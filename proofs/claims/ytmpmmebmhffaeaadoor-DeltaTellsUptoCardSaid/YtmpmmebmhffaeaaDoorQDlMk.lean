/- Layer 14: the maker of steps: how it lies; tellNew, tellCopy. -/
import Derived.Test.YtmpmmebmhffaeaaDoorQDlFind
import Derived.Test.YtmpmmebmhffaeaaDoorShelf
set_option linter.all false
set_option maxRecDepth 100000
set_option maxHeartbeats 25600000
namespace Go.Proofs.YtmpmmebmhffaeaaDoor
open Go.RowKit Go.Lib Go.BigFrame Go.Maps
namespace DM
open OM DL HP HS

theorem step_app_eq {P : Program} {w : World} {ops : Array Oper} {o : Oper} {a : Act} {K : Act → World → Prop} {Q : Exit → Act → World → Prop} {E : Prop} (hgd : o.guard = none) (s x : Operand) (t t2 : TypeId)
    (ho : o.op = .call { callee := .builtin .append, args := #[s, x], argTypes := #[t, t2] }) (u v : Value) (hs : a.eval s = u) (hx : a.eval x = v) {v' : Value} {w' : World}
    (hr : (Builtin.append_ #[t, t2] o.type #[u, v]).run P w = .ok v' w') (h : K (a.put o.dst v') w') : if Region.wanted o (yielded ops a.tmps) = true then Oper.wp P o a w K Q else E := by
  have hw : Region.wanted o (yielded ops a.tmps) = true := by simp [Region.wanted, hgd]
  rw [if_pos hw]
  unfold Oper.wp execOp
  simp only [ho, resolve, invoke, builtin, Sem.run_bind, Sem.run_pure, Result.andThen_ok, List.map_toArray, List.map_cons, List.map_nil, hs, hx, hr]
  exact h
/-- Maps stay as they are. -/
def MKeep (W W' : World) : Prop := W.heap.size ≤ W'.heap.size ∧ ∀ (b : Nat) (es : Array MapEntry) (c : Nat), W.heap[b]? = some (Obj.map es c) → W'.heap[b]? = some (Obj.map es c)
theorem MKeep.refl (W : World) : MKeep W W := ⟨Nat.le_refl _, fun _ _ _ h => h⟩
theorem MKeep.trans {A B C : World} (h : MKeep A B) (k : MKeep B C) : MKeep A C := ⟨Nat.le_trans h.1 k.1, fun b es c e => k.2 b es c (h.2 b es c e)⟩
theorem MKeep.below {W W' : World} (h : Below W.heap.size W W') : MKeep W W' := ⟨h.size, fun b es c e => row_keep e h⟩
theorem MKeep.map {P : Program} {kt : TypeId} {W W' : World} {b n : Nat} {f : Value → Option Value} (k : MKeep W W') (h : MapF P kt W b n f) : MapF P kt W' b n f := by
  obtain ⟨es, c, hm⟩ := h.kind
  exact h.row ((k.2 b es c hm).trans hm.symm)
theorem MKeep.outC {S : Nat → Prop} {W W' : World} (h : FP.Out S W W') (hs : ∀ j, S j → ∃ cs t z, W.heap[j]? = some (Obj.cells cs t z)) : MKeep W W' :=
  ⟨h.size, fun b es c e => h.row e (fun hS => by
    obtain ⟨cs, t, z, hc⟩ := hs b hS
    rw [e] at hc
    cases hc)⟩
/-- The maker lies in a block: its window, both maps, the steps, up to where they tell. -/
structure MkAt (B b1 b2 : Nat) (s : ByteArray) (sz f u k told : Nat) (v : Value) (W : World) : Prop where
  win : WinAt B s sz f u k W
  c5 : W.cell? ⟨B, 5, none⟩ = some (.map (some b1))
  c6 : W.cell? ⟨B, 6, none⟩ = some (.map (some b2))
  c7 : W.cell? ⟨B, 7, none⟩ = some v
  c8 : W.cell? ⟨B, 8, none⟩ = some (.int .i64 told)
  kind : ∃ cs z, W.heap[B]? = some (Obj.cells cs 67 z)
section
variable {B b1 b2 : Nat} {s : ByteArray} {sz f u k told : Nat} {v : Value} {W : World}
theorem MkAt.below {W' : World} (h : MkAt B b1 b2 s sz f u k told v W) (hb : Below W.heap.size W W') : MkAt B b1 b2 s sz f u k told v W' :=
  ⟨h.win.below hb, (hb.cell (p := ⟨B, 5, none⟩) h.win.lt).trans h.c5, (hb.cell (p := ⟨B, 6, none⟩) h.win.lt).trans h.c6, (hb.cell (p := ⟨B, 7, none⟩) h.win.lt).trans h.c7, (hb.cell (p := ⟨B, 8, none⟩) h.win.lt).trans h.c8, by
    obtain ⟨cs, z, e⟩ := h.kind
    exact ⟨cs, z, row_keep e hb⟩⟩
theorem MkAt.out {S : Nat → Prop} {W' : World} (h : MkAt B b1 b2 s sz f u k told v W) (hb : FP.Out S W W') (hn : ¬ S B) : MkAt B b1 b2 s sz f u k told v W' :=
  ⟨h.win.out hb hn, (hb.cell (p := ⟨B, 5, none⟩) h.win.lt hn).trans h.c5, (hb.cell (p := ⟨B, 6, none⟩) h.win.lt hn).trans h.c6, (hb.cell (p := ⟨B, 7, none⟩) h.win.lt hn).trans h.c7, (hb.cell (p := ⟨B, 8, none⟩) h.win.lt hn).trans h.c8, by
    obtain ⟨cs, z, e⟩ := h.kind
    exact ⟨cs, z, hb.row e hn⟩⟩
/-- The window has turned. -/
theorem kind_set {t : TypeId} (h : ∃ cs z, W.heap[B]? = some (Obj.cells cs t z)) (j : Nat) (x : Value) : ∃ cs z, (W.setCell ⟨B, j, none⟩ x).heap[B]? = some (Obj.cells cs t z) := by
  obtain ⟨cs, z, e⟩ := h
  refine ⟨cs.setIfInBounds j x, z, ?_⟩
  have hl := (Array.getElem?_eq_some_iff.1 e).1
  simp [World.setCell, Array.getElem?_modify, e]
theorem MkAt.set7 (h : MkAt B b1 b2 s sz f u k told v W) (x : Value) : MkAt B b1 b2 s sz f u k told x (W.setCell ⟨B, 7, none⟩ x) :=
  ⟨⟨by rw [World.cell?_setCell_other _ _ _ _ (by simp)]; exact h.win.c0, by rw [World.cell?_setCell_other _ _ _ _ (by simp)]; exact h.win.c1, by rw [World.cell?_setCell_other _ _ _ _ (by simp)]; exact h.win.c2, by rw [World.cell?_setCell_other _ _ _ _ (by simp)]; exact h.win.c3, by rw [World.cell?_setCell_other _ _ _ _ (by simp)]; exact h.win.c4, fun j => by rw [World.frozen?_setCell]; exact h.win.z j, by rw [World.size_setCell]; exact h.win.lt⟩,
    by rw [World.cell?_setCell_other _ _ _ _ (by simp)]; exact h.c5, by rw [World.cell?_setCell_other _ _ _ _ (by simp)]; exact h.c6, World.cell?_setCell_same _ _ _ h.c7, by rw [World.cell?_setCell_other _ _ _ _ (by simp)]; exact h.c8, kind_set h.kind 7 x⟩
theorem MkAt.set8 (h : MkAt B b1 b2 s sz f u k told v W) (n : Nat) : MkAt B b1 b2 s sz f u k n v (W.setCell ⟨B, 8, none⟩ (.int .i64 n)) :=
  ⟨⟨by rw [World.cell?_setCell_other _ _ _ _ (by simp)]; exact h.win.c0, by rw [World.cell?_setCell_other _ _ _ _ (by simp)]; exact h.win.c1, by rw [World.cell?_setCell_other _ _ _ _ (by simp)]; exact h.win.c2, by rw [World.cell?_setCell_other _ _ _ _ (by simp)]; exact h.win.c3, by rw [World.cell?_setCell_other _ _ _ _ (by simp)]; exact h.win.c4, fun j => by rw [World.frozen?_setCell]; exact h.win.z j, by rw [World.size_setCell]; exact h.win.lt⟩,
    by rw [World.cell?_setCell_other _ _ _ _ (by simp)]; exact h.c5, by rw [World.cell?_setCell_other _ _ _ _ (by simp)]; exact h.c6, by rw [World.cell?_setCell_other _ _ _ _ (by simp)]; exact h.c7, World.cell?_setCell_same _ _ _ h.c8, kind_set h.kind 8 _⟩
theorem MkAt.apart {base n : Nat} {x : Value} {xs : List Value} (h : MkAt B b1 b2 s sz f u k told v W) (ho : W.ownsRow base 46 3 x n xs) : x.ownBlock ≠ some B := fun e => by
  obtain ⟨cs, z, hk⟩ := h.kind
  obtain ⟨c, fz, hg⟩ := owns_kind ho B e
  rw [hk] at hg
  injection hg with hg
  injection hg with _ hg _
  exact absurd hg (by decide)
end
theorem own_set {W : World} {base e size n : Nat} {x : Value} {xs : List Value} {B j : Nat} (ho : W.ownsRow base e size x n xs) (hne : x.ownBlock ≠ some B) (y : Value) : (W.setCell ⟨B, j, none⟩ y).ownsRow base e size x n xs :=
  ((FP.Out.refl (fun k => k = B) W).setCell (p := ⟨B, j, none⟩) (fun _ => rfl) y).owns ho (fun g hg hgB => hne (by rw [hg, hgB]))
set_option maxRecDepth 100000 in
set_option maxHeartbeats 1600000 in
theorem clone_any (s : ByteArray) (w : World) (hs : s.size ≤ 1048576) :
    Calls Tryd.prog 56 #[.string s] w fun r w' => r = .returned (.string s) ∧ Below w.heap.size w w' := by
  have C := Tryd.stringslite_Clone s w (by omega)
  go_enter Tryd.func56, Tryd.ntmps56
  repeat (first | go_skip | go_guarded | go_step | go_upon)
  refine C.mono ?_
  rintro r w1 ⟨rfl, hb⟩
  simp only []
  repeat (first | go_skip | go_guarded | go_step | go_upon)
  go_ret
  exact ⟨rfl, hb⟩
/-- What tellNew and tellCopy leave: steps O, the rest as it was. -/
def MkPost (B b1 b2 : Nat) (s : ByteArray) (sz f u k told : Nat) (base N : Nat) (O : List Stp) (w : World) (r : Ending) (w' : World) : Prop :=
  ∃ a c, r = .returned (.tuple #[]) ∧ MkAt B b1 b2 s sz f u k told (.slice a O.length c) w' ∧ w'.ownsRow base 46 3 (.slice a O.length c) O.length (opC O) ∧ MKeep w w' ∧ Below N w w'
set_option maxRecDepth 100000 in
set_option maxHeartbeats 6400000 in
theorem tellNew_any (B b1 b2 : Nat) (s : ByteArray) (sz f u k told base N : Nat) (O : List Stp) (a : Option Addr) (c : Nat) (w : World) (h : MkAt B b1 b2 s sz f u k told (.slice a O.length c) w) (ho : w.ownsRow base 46 3 (.slice a O.length c) O.length (opC O))
    (h1 : told ≤ f) (h2 : f ≤ s.size) (hs : s.size ≤ 1048576) (hO : O.length ≤ 4194304) (hN : N ≤ B) (hNb : N ≤ base) (hb : base ≤ w.heap.size) :
    Calls Tryd.prog 39 #[ptr B] w (MkPost B b1 b2 s sz f u k told base N (pend O (s.extract told f).data.toList) w) := by
  have HM := Lib.hid h
  have HO := Lib.hid ho
  obtain ⟨⟨c0, c1, c2, c3, c4, z, lt⟩, c5, c6, c7, c8, -⟩ := h
  have hNw : N ≤ w.heap.size := Nat.le_trans hN (Nat.le_of_lt lt)
  unfold MkPost
  by_cases hlt : told < f
  · have hltz : (told : Int) < f := by omega
    have hne : (s.extract told f).data.toList ≠ [] := fun e => by
      have := ext_len (s := s) (f := told) (u := f) h2
      rw [e] at this
      simp at this
      omega
    have hp : pend O (s.extract told f).data.toList = O ++ [(0, 0, (s.extract told f).data.toList)] := by unfold pend; rw [if_neg hne]
    rw [hp]
    have CC : Hid (∀ W, Calls Tryd.prog 56 #[.string (s.extract told f)] W fun r w' => r = .returned (.string (s.extract told f)) ∧ Below W.heap.size W w') := Lib.hid (fun W => clone_any _ W (by
      rw [Lib.size_eq, ext_len h2]
      omega))
    have hsl : ∀ W, (Instr.slice 9 (.string s) (some (.int .i64 (told : Int))) (some (.int .i64 (f : Int))) none).run Tryd.prog W = .ok (.string (s.extract told f)) W := fun W => by
      rw [run_slice_string_if (w := W) 9 s .i64 .i64 (told : Int) (f : Int) Tryd.underlying9, if_pos (by omega), if_pos (by omega)]
      rfl
    obtain ⟨T, hT⟩ : ∃ T, s.extract told f = T := ⟨_, rfl⟩
    rw [hT] at CC hsl ⊢
    have HX := Lib.hid (Lib.mk_data T)
    obtain ⟨n, hn⟩ : ∃ n, O.length = n := ⟨_, rfl⟩
    have HL : Hid ((O ++ [((0 : Int), (0 : Int), T.data.toList)]).length = n + 1) := Lib.hid (by rw [List.length_append, hn]; rfl)
    rw [hn] at HM HO c7 hO
    clear z hne hp hlt h1 hT hn
    go_enter Tryd.func39, Tryd.ntmps39
    repeat (first | go_skip | go_guarded | go_step | go_upon)
    go_quiet (fail)
    rename_i nq
    have B1 := Lib.hid (drew_out w nq)
    have HM1 := Lib.hid (HM.out.below B1.out)
    have HO1 := Lib.hid (owns_below HO.out B1.out)
    clear c0 c1 c2 c3 c4 lt c5 c6 c7 c8
    generalize w.drewN nq = w1 at B1 HM1 HO1 ⊢
    repeat (first | go_skip | go_guarded | go_step | go_upon)
    refine wp_region_noPanic ?_
    with_reducible refine QT.region_mix (S := fun W' => MkAt B b1 b2 s sz f u k told (.slice a n c) W') [(true, 0), (true, 1), (true, 2), (true, 3), (true, 4), (true, 5), (true, 6), (true, 7), (true, 8), (true, 9), (true, 10), (true, 11), (true, 12), (true, 13), (true, 14), (true, 15), (true, 16), (true, 17), (true, 18), (true, 19), (false, 20), (true, 21), (false, 22), (false, 23)] 24 (by kernel_rfl) (by kernel_rfl) ?_ ?_ ?_
    · exact fun _ _ _ _ _ h => h
    · exact HM1.out.below (Below.refl _ _).drew
    intro _
    simp only [QT.pickM, List.filterMap_cons, List.filterMap_nil, List.getElem?_cons_succ, List.getElem?_cons_zero, Option.map_some, List.drop_succ_cons, List.drop_zero]
    iterate 20 (refine QT.wpMix_take _ (by rfl) (by intro w' hSw; obtain ⟨⟨c0, c1, c2, c3, c4, z, lt⟩, c5, c6, c7, c8, -⟩ := hSw; go_simp; first | done | rfl) ?_; try simp only [Act.put, List.setIfInBounds_toArray, List.set_cons_zero, List.set_cons_succ])
    intro K' hK
    rw [if_pos (by rfl)]
    go_simp
    refine (CC.out _).mono ?_
    rintro r w2 ⟨rfl, hb2⟩
    simp only []
    have B2 := Lib.hid (B1.out.trans (((Below.refl _ _).drew.trans hb2).mono B1.out.size))
    have HM2 := Lib.hid (HM1.out.below ((Below.refl _ _).drew.trans hb2))
    have HO2 := Lib.hid (owns_below HO1.out ((Below.refl _ _).drew.trans hb2))
    refine hK.out _ _ HM2.out ?_
    clear hK K' hb2
    try simp only [Act.put, List.setIfInBounds_toArray, List.set_cons_zero, List.set_cons_succ]
    refine QT.wpMix_take _ (by rfl) (by intro w' hSw; go_simp; first | done | rfl) ?_
    try simp only [Act.put, List.setIfInBounds_toArray, List.set_cons_zero, List.set_cons_succ]
    intro K' hK
    rw [if_pos (by rfl)]
    go_simp
    refine hK.out _ _ (HM2.out.below ((Below.refl _ _).alloc (Nat.le_refl _) _)) ?_
    clear hK K'
    try simp only [Act.put, List.setIfInBounds_toArray, List.set_cons_zero, List.set_cons_succ]
    obtain ⟨a3, c3', w3, hrun, hown, hout⟩ := op_step (x := .int .i64 0) (y := .int .i64 0) (z := .string T) HO2.out (by omega) (Nat.le_trans hb B2.out.size) (fun v hv => by simp at hv; rcases hv with rfl | rfl <;> rfl)
    have HM3 := Lib.hid (HM2.out.out hout (fun e => HM2.out.apart HO2.out e))
    have HO3 := Lib.hid hown
    have HU3 := Lib.hid hout
    clear hown hout
    intro K' hK
    refine step_app_eq rfl (.tmp 16) (.tmp 34) 34 34 rfl (.slice a n c) (.slice (some ⟨w2.heap.size, 0, none⟩) 1 1) rfl rfl hrun ?_
    refine hK.out _ _ HM3.out ?_
    clear hK K' hrun
    try simp only [Act.put, List.setIfInBounds_toArray, List.set_cons_zero, List.set_cons_succ]
    refine QT.wpMix_nil ?_
    obtain ⟨⟨c0, c1, c2, c3, c4, z, lt⟩, c5, c6, c7, c8, -⟩ := HM3.out
    have z7 := z 7
    clear z c0 c1 c2 c3 c4
    repeat (first | go_skip | go_guarded | go_step | go_upon)
    refine NoPanic.normal ?_
    repeat (first | go_skip | go_guarded | go_step | go_upon)
    go_end0
    have hO4 := own_set (B := B) (j := 7) HO3.out (HM3.out.apart HO3.out) (.slice a3 (n + 1) c3')
    refine ⟨a3, c3', rfl, ?_, ?_, ?_, ?_⟩
    · rw [HL.out]
      exact HM3.out.set7 _
    · rw [HL.out, op_snoc _ _ _ _ HX.out]
      exact hO4
    · refine ((MKeep.below B2.out).trans (MKeep.outC HU3.out (fun j hj => ?_))).trans (MKeep.outC ((FP.Out.refl (fun k => k = B) w3).setCell (p := ⟨B, 7, none⟩) (fun _ => rfl) _) (fun j hj => ?_))
      · obtain ⟨cs, fz, e⟩ := owns_kind HO2.out j hj
        exact ⟨cs, _, fz, e⟩
      · obtain ⟨cs, fz, e⟩ := HM3.out.kind
        rw [hj]
        exact ⟨cs, _, fz, e⟩
    · exact (own_out HO2.out (B2.out.mono hNw) hNb hNw HU3.out).setCell (p := ⟨B, 7, none⟩) hN _
  · have he : told = f := by omega
    have hp : pend O (s.extract told f).data.toList = O := by
      unfold pend
      rw [if_pos (by rw [take_of3, he, Nat.sub_self]; rfl)]
    rw [hp]
    have hltz : ¬ (told : Int) < f := by omega
    obtain ⟨n, hn⟩ : ∃ n, O.length = n := ⟨_, rfl⟩
    rw [hn] at HM HO c7 hO ⊢
    clear z hp hlt h1 he hn
    go_enter Tryd.func39, Tryd.ntmps39
    repeat (first | go_skip | go_guarded | go_step | go_upon)
    go_quiet (fail)
    rename_i nq
    have B1 := Lib.hid (drew_out w nq)
    generalize w.drewN nq = w1 at B1 ⊢
    repeat (first | go_skip | go_guarded | go_step | go_upon)
    go_end0
    exact ⟨a, c, rfl, HM.out.below B1.out, owns_below HO.out B1.out, MKeep.below B1.out, B1.out.mono hNw⟩
end DM
end Go.Proofs.YtmpmmebmhffaeaaDoor
