/- Layer 15: the contracts of the program's readAll, Read. -/
import Derived.Test.YtbklnijmalnnoaaDoorQLnTf
import Derived.Test.YtbklnijmalnnoaaDoorShelf
set_option linter.all false
set_option maxRecDepth 100000
set_option maxHeartbeats 25600000
namespace Go.Proofs.YtbklnijmalnnoaaDoor
open Go.RowKit Go.Lib Go.BigFrame
namespace LN
open HP HS RP LP OM RQ HR RF
open HQ (Env crc_any)

theorem tf_any (b : Nat) (s : List UInt8) (ls : List (List UInt8)) (w : World) (hr : RdA b s ls w) (he : ∀ W, Below b w W → Env W) (hx : s.length ≤ 4294967296) (hn : ls.length < 4294967296) :
    Calls Tryd.prog 31 #[ptr b] w (TfPost b s ls w) := by
  by_cases h : s.length < 12
  · exact frame_short b s ls w hr h
  · exact frame_long b s ls w hr he (by omega) hx hn
set_option maxRecDepth 100000 in
theorem clone_any (s : ByteArray) (w : World) (h : s.size ≤ 4294967296) :
    Calls Tryd.prog 32 #[.string s] w fun r w' => r = .returned (.string s) ∧ Below w.heap.size w w' := by
  have C := Tryd.stringslite_Clone s w (by omega)
  go_enter Tryd.func32, Tryd.ntmps32
  go_wp2_with fail
  refine C.mono ?_
  rintro r w1 ⟨rfl, hb⟩
  go_wp2_with fail
  go_ret
  exact ⟨rfl, hb⟩
theorem wp_app_eq {P : Program} {w : World} {o : Oper} {a : Act} {K : Act → World → Prop} {Q : Exit → Act → World → Prop} (s x : Operand) (t t2 : TypeId)
    (ho : o.op = .call { callee := .builtin .append, args := #[s, x], argTypes := #[t, t2] }) (u v : Value) (hs : a.eval s = u) (hx : a.eval x = v) {v' : Value} {w' : World}
    (hr : (Builtin.append_ #[t, t2] o.type #[u, v]).run P w = .ok v' w') (h : K (a.put o.dst v') w') : o.wp P a w K Q := by
  unfold Oper.wp
  simp [execOp, ho, resolve, invoke, builtin, hs, hx, hr, Result.andThen]
  exact h
def leftW (b : Nat) (w : World) : Nat := match w.cell? ⟨b, 0, none⟩ with
  | some (.string s) => s.size
  | _ => 0
theorem leftW_of {b : Nat} {s : List UInt8} {ls : List (List UInt8)} {w : World} (h : RdA b s ls w) : leftW b w = s.length := by
  have c0 := h.c0
  unfold txt at c0
  unfold leftW
  rw [c0]
  simp only []
  rw [Lib.size_eq]
/-- What the loop keeps: what was read, and what is left. -/
def PRa (b : Nat) (s0 : List UInt8) (w : World) (_s3 _s4 : Value) (wr : World) : Prop :=
  ∃ s ls, RdA b s ls wr ∧ Below b w wr ∧ readL s0 = (ls ++ (readGo s.length ls.length s).1, (readGo s.length ls.length s).2) ∧ s.length + 12 * ls.length ≤ s0.length
theorem RdA.more {b : Nat} {s : List UInt8} {ls ms : List (List UInt8)} {w w' : World} {v : Value} (h : RdA b s ls w) (hb : Below (b + 1) w w') (ho : w'.ownsRow (b + 1) 9 1 v ms.length (ms.map txt)) : RdA b s ms (w'.setCell ⟨b, 1, none⟩ v) :=
  h.set1 (fun o => hb.cell (p := ⟨b, o, none⟩) (Nat.lt_succ_self b)) (fun o => hb.frozen (p := ⟨b, o, none⟩) (Nat.lt_succ_self b)) (Nat.lt_of_lt_of_le h.lt hb.size) ho
set_option maxRecDepth 100000 in
set_option maxHeartbeats 6400000 in
theorem readAll_any (b : Nat) (s0 : List UInt8) (w : World) (hr : RdA b s0 [] w) (he : ∀ W, Below b w W → Env W) (hx : s0.length ≤ 4294967296) :
    Calls Tryd.prog 21 #[ptr b] w fun r w' => ∃ t, r = .returned (.bool (readL s0).2) ∧ RdA b t (readL s0).1 w' ∧ Below b w w' := by
  obtain ⟨i0, hi, hz0, hz1, hz2⟩ := info_parts infoS
  have HR := Lib.hid hr
  have HEn := Lib.hid he
  have HX := Lib.hid hx
  clear hr he hx
  go_enter Tryd.func21, Tryd.ntmps21
  repeat (first | go_skip | go_guarded | go_step | go_upon)
  go_loopw [3, 4] (PRa b s0 w) (fun _ _ wr => leftW b wr)
  case atStart => exact ⟨s0, [], HR.out, Below.refl _ _, by rw [List.nil_append]; rfl, by simp⟩
  case round =>
    obtain ⟨s, ls, hra, hb, hgo, hlen⟩ := hrel
    have RC := Lib.hid hra
    have BC := Lib.hid hb
    have HG := Lib.hid hgo
    have HLn := Lib.hid hlen
    have CO := Lib.hid (over_any b s ls wr hra)
    clear hra hb hgo hlen
    by_cases h0 : s = []
    · subst h0
      have HD : Hid (readL s0 = (ls, true)) := Lib.hid (by rw [HG.out, read_end, List.append_nil])
      repeat (first | (go_at_call 30; fail) | go_skip | go_guarded | go_step | go_upon)
      refine CO.out.mono ?_
      rintro r w1 ⟨rfl, rfl⟩
      simp only [List.isEmpty_nil]
      repeat (first | go_skip | go_guarded | go_step | go_upon)
      go_ret
      refine ⟨[], by rw [HD.out]; rfl, ?_, BC.out⟩
      rw [HD.out]
      exact RC.out
    · have hie : s.isEmpty = false := by cases s with
        | nil => exact absurd rfl h0
        | cons x s => rfl
      rw [hie] at CO
      have CF := Lib.hid (tf_any b s ls wr RC.out (fun W hW => HEn.out W (BC.out.trans hW)) (by have := HLn.out; have := HX.out; omega) (by have := HLn.out; have := HX.out; omega))
      have H0 := Lib.hid h0
      clear h0 hie
      repeat (first | (go_at_call 30; fail) | go_skip | go_guarded | go_step | go_upon)
      refine CO.out.mono ?_
      rintro r w1 ⟨rfl, rfl⟩
      simp only []
      repeat (first | (go_at_call 31; fail) | go_skip | go_guarded | go_step | go_upon)
      refine CF.out.mono ?_
      rintro r w2 (⟨p, t, hn, rfl, hR, hB⟩ | ⟨hn, rfl, ⟨t, hR⟩, hB⟩)
      · simp only []
        have hl := next_len hn
        have hst := go_step hn
        have HG2 : Hid (readL s0 = ((ls ++ [p]) ++ (readGo t.length (ls ++ [p]).length t).1, (readGo t.length (ls ++ [p]).length t).2)) := Lib.hid (by
          rw [HG.out, hst]
          simp only [List.length_append, List.length_cons, List.length_nil, List.append_assoc, List.cons_append, List.nil_append, Nat.zero_add])
        have HL2 : Hid (t.length + 12 * (ls ++ [p]).length ≤ s0.length) := Lib.hid (by
          have := HLn.out
          rw [List.length_append, List.length_cons, List.length_nil]
          omega)
        have HTL : Hid (t.length < s.length) := Lib.hid (by omega)
        have RC2 := Lib.hid hR
        have BC2 := Lib.hid (BC.out.trans hB)
        obtain ⟨v, c1, ho⟩ := hR.own
        obtain ⟨ao, c, rfl, _⟩ := owns_view ho
        obtain ⟨n, hnn⟩ : ∃ n, ls.length = n := ⟨_, rfl⟩
        rw [hnn] at c1 ho
        have HNN := Lib.hid hnn
        have HN : Hid (n ≤ 4294967296) := Lib.hid (by have := HLn.out; have := HX.out; omega)
        obtain ⟨TP, hTP⟩ : ∃ T : ByteArray, ⟨p.toArray⟩ = T := ⟨_, rfl⟩
        have CC := fun W => clone_any TP W (by rw [← hTP, Lib.size_eq]; have := HLn.out; have := HX.out; show p.length ≤ _; omega)
        have HTP := Lib.hid hTP
        have HO := Lib.hid ho
        have HC1 := Lib.hid c1
        have hlt := hR.lt
        unfold txt
        rw [hTP]
        clear hn hl hst hR hB c1 ho hnn hTP
        repeat (first | go_skip | go_guarded | go_step | go_upon)
        refine wp_region_noPanic ?_
        with_reducible refine QT.region_mix (S := fun W => W.cell? ⟨b, 1, none⟩ = some (.slice ao n c)) [(true, 0), (true, 1), (true, 2), (true, 3), (true, 4), (true, 5), (false, 6), (false, 7), (false, 8)] 9 (by kernel_rfl) (by kernel_rfl) ?_ ?_ ?_
        · exact fun _ _ _ _ _ h => h
        · exact HC1.out
        intro _
        simp only [QT.pickM, List.filterMap_cons, List.filterMap_nil, List.getElem?_cons_succ, List.getElem?_cons_zero, Option.map_some, List.drop_succ_cons, List.drop_zero]
        iterate 6 (refine QT.wpMix_take _ (by rfl) (by intro w' hS; go_simp; first | done | rfl) ?_; try simp only [Act.put, List.setIfInBounds_toArray, List.set_cons_zero, List.set_cons_succ])
        intro K' hK
        rw [if_pos (by rfl)]
        go_simp
        refine (CC _).mono ?_
        rintro r w3 ⟨rfl, hb3⟩
        simp only []
        have H23 : Hid (Below w2.heap.size w2 w3) := Lib.hid ((Below.refl _ _).drew.trans hb3)
        refine hK.out _ _ ((H23.out.cell (p := ⟨b, 1, none⟩) hlt).trans HC1.out) ?_
        clear hK K' hb3
        try simp only [Act.put, List.setIfInBounds_toArray, List.set_cons_zero, List.set_cons_succ]
        intro K' hK
        rw [if_pos (by rfl)]
        go_simp
        obtain ⟨w4, hw4⟩ : ∃ w4, w3.alloc (.cells #[.string TP] 9) = w4 := ⟨_, rfl⟩
        have H24 : Hid (Below w2.heap.size w2 w4) := Lib.hid (hw4 ▸ H23.out.alloc H23.out.size _)
        refine hK.out _ _ ?_ ?_
        · rw [hw4]; exact (H24.out.cell (p := ⟨b, 1, none⟩) hlt).trans HC1.out
        rw [hw4]
        clear hK K'
        try simp only [Act.put, List.setIfInBounds_toArray, List.set_cons_zero, List.set_cons_succ]
        intro K' hK
        rw [if_pos (by rfl)]
        obtain ⟨v', w5, hrun, hown5, hgrow5, -⟩ := run_append_own (P := Tryd.prog) w4 (b + 1) 22 22 9 i0 (.string ByteArray.empty) 1 16 Tryd.underlying22 hi hz0 hz1 hz2 rfl (by decide) (.slice ao n c) n (ls.map txt) (owns_below HO.out H24.out) ⟨w3.heap.size, 0, none⟩ 1 1 [.string TP] rfl (by rw [← hw4]; exact one_new _ _ _) (fun x hx => by simp at hx; subst hx; rfl) (by have := HN.out; unfold maxLen; omega) (by have := HN.out; omega) (by have := H24.out.size; omega)
        obtain ⟨ao5, c5, rfl, _⟩ := owns_view hown5
        refine wp_app_eq _ _ _ _ rfl _ _ rfl rfl hrun ?_
        have H5 : Hid (Below (b + 1) w4 w5) := Lib.hid ((Below.refl _ _).grown hgrow5 (by have := H24.out.size; omega) (fun j hj => ((owns_below HO.out H24.out).lt j hj).1))
        have d1 : w5.cell? ⟨b, 1, none⟩ = some (.slice ao n c) := (H5.out.cell (p := ⟨b, 1, none⟩) (Nat.lt_succ_self b)).trans ((H24.out.cell (p := ⟨b, 1, none⟩) hlt).trans HC1.out)
        have f1 : w5.frozen? ⟨b, 1, none⟩ = false := (H5.out.frozen (p := ⟨b, 1, none⟩) (Nat.lt_succ_self b)).trans ((H24.out.frozen (p := ⟨b, 1, none⟩) hlt).trans RC2.out.f1)
        have HO5 : Hid (w5.ownsRow (b + 1) 9 1 (.slice ao5 (n + 1) c5) (ls ++ [p]).length ((ls ++ [p]).map txt)) := Lib.hid (by
          rw [List.length_append, HNN.out, List.map_append]
          have e : [p].map txt = [.string TP] := by rw [List.map_singleton]; unfold txt; rw [HTP.out]
          rw [e]
          exact hown5)
        refine hK.out _ _ d1 ?_
        clear hK K' hrun hown5 hgrow5
        try simp only [Act.put, List.setIfInBounds_toArray, List.set_cons_zero, List.set_cons_succ]
        refine QT.wpMix_nil ?_
        repeat (first | go_skip | go_guarded | go_step | go_upon)
        refine NoPanic.normal ?_
        repeat (first | go_skip | go_guarded | go_step | go_upon)
        have R5 := Lib.hid ((RC2.out.keep H24.out).more H5.out HO5.out)
        refine ⟨⟨t, ls ++ [p], R5.out, ?_, HG2.out, HL2.out⟩, ?_⟩
        · exact (((BC2.out.trans (H24.out.mono (Nat.le_of_lt hlt))).trans (H5.out.mono (Nat.le_succ b))).setCell (p := ⟨b, 1, none⟩) (Nat.le_refl b) _)
        · rw [leftW_of R5.out, leftW_of RC.out]
          exact HTL.out
      · simp only []
        have HD : Hid (readL s0 = (ls, false)) := Lib.hid (by rw [HG.out, go_bad H0.out hn, List.append_nil])
        have RC2 := Lib.hid hR
        have BC2 := Lib.hid (BC.out.trans hB)
        clear hn hR hB
        repeat (first | go_skip | go_guarded | go_step | go_upon)
        go_ret
        refine ⟨t, by rw [HD.out]; rfl, ?_, BC2.out⟩
        rw [HD.out]
        exact RC2.out
end LN
end Go.Proofs.YtbklnijmalnnoaaDoor
