/- Layer 12: the walk of ReconTells. (Written by tools/gen_rttells.py.) -/
import Derived.Test.YtmpmmebmhffaeaaGreatDoorQRtCopy
import Derived.Test.YtmpmmebmhffaeaaGreatDoorQRtI
import Derived.Test.YtmpmmebmhffaeaaGreatDoorQRtG
import Derived.Test.YtmpmmebmhffaeaaGreatDoorQRcAw
import Derived.Test.YtmpmmebmhffaeaaGreatDoorQForks
set_option linter.all false
set_option maxRecDepth 100000
set_option maxHeartbeats 25600000
namespace Go.Proofs.YtmpmmebmhffaeaaGreatDoor
open Go.RowKit Go.Lib Go.Maps Go.BigFrame Go.Sort
namespace RC
open OM TP TM TR TG TW NP

theorem tcell3 {W : World} {B : Nat} {t : TypeId} {a b c : Value} (h : W.heap[B]? = some (.cells #[a, b, c] t (0, 0))) : W.cell? ⟨B, 0, none⟩ = some a ∧ W.cell? ⟨B, 1, none⟩ = some b ∧ W.cell? ⟨B, 2, none⟩ = some c := by simp [World.cell?, h]
theorem trow3 {W : World} {b : Nat} {a0 a1 a2 : Value} {t : TypeId} (h : W.heap[b]? = some (.cells #[a0, a1, a2] t (0, 0))) : W.cell? ⟨b, 0, none⟩ = some a0 ∧ W.cell? ⟨b, 1, none⟩ = some a1 ∧ W.cell? ⟨b, 2, none⟩ = some a2 ∧ ∀ j, W.frozen? ⟨b, j, none⟩ = false :=
  ⟨by rw [cell_of_row W b 0 _ _ _ h]; rfl, by rw [cell_of_row W b 1 _ _ _ h]; rfl, by rw [cell_of_row W b 2 _ _ _ h]; rfl, fun j => frozen_of_row W b j _ _ h⟩
theorem tset3 (w : World) (b : Nat) (u0 u1 u2 : Value) {a0 a1 a2 : Value} {t : TypeId} (h : w.heap[b]? = some (.cells #[a0, a1, a2] t (0, 0))) : (((w.setCell ⟨b, 0, none⟩ u0).setCell ⟨b, 1, none⟩ u1).setCell ⟨b, 2, none⟩ u2).heap[b]? = some (.cells #[u0, u1, u2] t (0, 0)) :=
  set_step (set_step (set_step h (cs' := #[u0, a1, a2]) (by simp)) (cs' := #[u0, u1, a2]) (by simp)) (by simp)
theorem tgrown3 (w : World) (b : Nat) (u0 u1 u2 : Value) : w.grownBy (((w.setCell ⟨b, 0, none⟩ u0).setCell ⟨b, 1, none⟩ u1).setCell ⟨b, 2, none⟩ u2) (some b) :=
  ((grown_set w ⟨b, 0, none⟩ u0).trans (grown_set _ ⟨b, 1, none⟩ u1)).trans (grown_set _ ⟨b, 2, none⟩ u2)
theorem tkeep3 {W W' : World} {g3 : Nat} {t : TypeId} {ao : Option Addr} {l : List Nd} (h : LayN W ao l) (hr : W.heap[g3]? = some (.cells #[.slice none 0 0, .slice none 0 0, .slice none 0 0] t (0, 0))) (hg : W.grownBy W' (some g3)) : LayN W' ao l := fun h0 => by
  obtain ⟨g, o, e, hlt, hc⟩ := h h0
  have hne : g ≠ g3 := by
    rintro rfl
    obtain ⟨x, hx⟩ : ∃ x, l[0]? = some x := ⟨l[0], List.getElem?_eq_getElem h0⟩
    have p := (hc 0 x hx).p
    rw [cell_of_row W g _ _ _ _ hr] at p
    obtain ⟨j, hj⟩ : ∃ j, o + 0 * 4 = j := ⟨_, rfl⟩
    obtain ⟨S, hS, _⟩ := txt_of x.path
    rw [hj] at p
    first | rw [hS] at p | skip
    match j, p with
    | 0, p => simp at p
    | 1, p => simp at p
    | 2, p => simp at p
    | j + 3, p => simp at p
  refine ⟨g, o, e, Nat.lt_of_lt_of_le hlt hg.size, fun k n hk => ?_⟩
  have h5 := hc k n hk
  have hcell : ∀ j, W'.cell? ⟨g, j, none⟩ = W.cell? ⟨g, j, none⟩ := fun j => World.cell?_of_block (hg.block g hlt (fun e2 => hne (by injection e2)))
  exact ⟨(hcell _).trans h5.p, (hcell _).trans h5.k, (hcell _).trans h5.d, (hcell _).trans h5.m⟩
theorem agLN_any {xo ta tb : List Nd} {ao aa ab : Option Addr} {co ca cb : Nat} {W : World} (he : NF.Env W) (lo : In W ao co xo) (la : In W aa ca ta) (lb : In W ab cb tb) :
    Calls Tryz.prog 8 #[.slice ao xo.length co, .slice aa ta.length ca, .slice ab tb.length cb] W fun r w' => ∃ u c, r = .returned (.tuple #[.slice u (agL xo ta tb).length c, .int .i64 (erL xo ta tb)]) ∧ LayN w' u (agL xo ta tb) ∧ (∀ g o, u = some ⟨g, o, none⟩ → W.heap.size ≤ g ∧ Fr w' g) ∧ Below W.heap.size W w' := by
  refine (agreeAll_new xo ta tb ao aa ab co ca cb W he lo la lb).mono ?_
  intro r w1 hr
  unfold AgreeAnsN at hr
  unfold agL erL
  split at hr
  · rename_i h1
    rw [if_pos h1, if_pos h1]
    obtain ⟨u, c, rfl, _, hl, hn, hb⟩ := hr
    exact ⟨_, _, by rw [List.length_drop], hl, fun g o e => hn g o _ _ (by rw [e]), hb⟩
  · rename_i h1
    rw [if_neg h1, if_neg h1]
    obtain ⟨rfl, hb⟩ := hr
    exact ⟨_, _, rfl, LayN.nil _ _, fun g o e => (by cases e), hb⟩
theorem trow {w W : World} {g : Nat} {v : Obj} (h : w.heap[g]? = some v) (hb : Below w.heap.size w W) : W.heap[g]? = some v := (hb.block g (Array.getElem?_eq_some_iff.1 h).1).trans h
set_option maxRecDepth 100000 in
set_option maxHeartbeats 3200000 in
theorem small12_any (x1 x2 x3 : Option Addr) (n1 n2 n3 c1 c2 c3 : Nat) (W : World) :
    Calls Tryz.prog 5 #[.agg #[.slice x1 n1 c1, .slice x2 n2 c2, .slice x3 n3 c3]] W fun r w' => r = .returned (.bool (decide (n1 ≤ 60) && (decide (n2 ≤ 60) && decide (n3 ≤ 60)))) ∧ Below W.heap.size W w' := by
  have B0 : Hid (Below W.heap.size W (W.alloc (.cells #[.slice x1 n1 c1, .slice x2 n2 c2, .slice x3 n3 c3] 24))) := Lib.hid ((Below.refl _ _).alloc (Nat.le_refl _) _)
  obtain ⟨d0, d1, d2⟩ := tcell3 (heap_alloc_new W (.cells #[.slice x1 n1 c1, .slice x2 n2 c2, .slice x3 n3 c3] 24))
  by_cases h1 : n1 ≤ 60
  · by_cases h2 : n2 ≤ 60
    · by_cases h3 : n3 ≤ 60
      all_goals
        simp only [h1, h2, h3, decide_true, decide_false, Bool.and_true, Bool.and_false]
        have z1 : (n1 : Int) ≤ 60 := by omega
        have z2 : (n2 : Int) ≤ 60 := by omega
        first | have z3 : (n3 : Int) ≤ 60 := by omega | skip
        first | have z3 : ¬ (n3 : Int) ≤ 60 := by omega | skip
        go_enter Tryz.func5, Tryz.ntmps5
        repeat (first | go_skip | go_guarded | go_step | go_upon)
        go_ret
        exact ⟨rfl, B0.out⟩
    · simp only [h1, h2, decide_true, decide_false, Bool.true_and, Bool.false_and]
      have z1 : (n1 : Int) ≤ 60 := by omega
      have z2 : ¬ (n2 : Int) ≤ 60 := by omega
      go_enter Tryz.func5, Tryz.ntmps5
      repeat (first | go_skip | go_guarded | go_step | go_upon)
      go_ret
      exact ⟨rfl, B0.out⟩
  · simp only [h1, decide_false, Bool.false_and]
    have z1 : ¬ (n1 : Int) ≤ 60 := by omega
    go_enter Tryz.func5, Tryz.ntmps5
    repeat (first | go_skip | go_guarded | go_step | go_upon)
    go_ret
    exact ⟨rfl, B0.out⟩
theorem rt_app {P : Program} {w : World} {ops : Array Oper} {o : Oper} {a : Act} {K : Act → World → Prop} {Q : Exit → Act → World → Prop} {E : Prop} (hgd : o.guard = none) (s x : Operand) (t t2 : TypeId)
    (ho : o.op = .call { callee := .builtin .append, args := #[s, x], argTypes := #[t, t2] }) (u v : Value) (hs : a.eval s = u) (hx : a.eval x = v) {v' : Value} {w' : World}
    (hr : (Builtin.append_ #[t, t2] o.type #[u, v]).run P w = .ok v' w') (h : K (a.put o.dst v') w') : if Region.wanted o (yielded ops a.tmps) = true then Oper.wp P o a w K Q else E := by
  have hw : Region.wanted o (yielded ops a.tmps) = true := by simp [Region.wanted, hgd]
  rw [if_pos hw]
  unfold Oper.wp execOp
  simp only [ho, resolve, invoke, builtin, Sem.run_bind, Sem.run_pure, Result.andThen_ok, List.map_toArray, List.map_cons, List.map_nil, hs, hx, hr]
  exact h
/-- What comes up next, by what was done. -/
def rdy (e0 d3 e4 d7 e8 d11 c12 e13 : Bool) : List Nat :=
  (if e0 then [] else [0]) ++ (if e0 && !d3 then [3] else []) ++ (if e4 then [] else [4]) ++ (if e4 && d3 && !d7 then [7] else []) ++ (if e8 then [] else [8]) ++ (if e8 && d7 && !d11 then [11] else []) ++ (if d11 && !c12 then [12] else []) ++ (if e13 then [] else [13])
def okF (e0 d3 e4 d7 e8 d11 c12 : Bool) : Bool := (!d3 || e0) && (!d7 || (e4 && d3)) && (!d11 || (e8 && d7)) && (!c12 || d11)
def cntF (e0 d3 e4 d7 e8 d11 c12 e13 : Bool) : Nat := (!e0).toNat + (!d3).toNat + (!e4).toNat + (!d7).toNat + (!e8).toNat + (!d11).toNat + (!c12).toNat + (!e13).toNat
theorem fl0 : ∀ d3 e4 d7 e8 d11 c12 : Bool, okF false d3 e4 d7 e8 d11 c12 = true → okF true d3 e4 d7 e8 d11 c12 = true := by decide
theorem fl4 : ∀ e0 d3 d7 e8 d11 c12 : Bool, okF e0 d3 false d7 e8 d11 c12 = true → okF e0 d3 true d7 e8 d11 c12 = true := by decide
theorem fl8 : ∀ e0 d3 e4 d7 d11 c12 : Bool, okF e0 d3 e4 d7 false d11 c12 = true → okF e0 d3 e4 d7 true d11 c12 = true := by decide
theorem fl3 : ∀ e4 d7 e8 d11 c12 : Bool, okF true false e4 d7 e8 d11 c12 = true → okF true true e4 d7 e8 d11 c12 = true ∧ c12 = false := by decide
theorem fl7 : ∀ e0 e8 d11 c12 : Bool, okF e0 true true false e8 d11 c12 = true → okF e0 true true true e8 d11 c12 = true ∧ c12 = false := by decide
theorem fl11 : ∀ e0 d3 e4 c12 : Bool, okF e0 d3 e4 true true false c12 = true → okF e0 d3 e4 true true true c12 = true ∧ c12 = false := by decide
theorem fl12 : ∀ e0 d3 e4 d7 e8 : Bool, okF e0 d3 e4 d7 e8 true false = true → okF e0 d3 e4 d7 e8 true true = true ∧ d3 = true ∧ d7 = true := by decide
theorem flz : ∀ b : Bool, (!b).toNat = 0 → b = true := by decide
theorem mem_no {b : Bool} {i n : Nat} (h : i ∈ (if b = true then [] else [n])) : i = n ∧ b = false := by cases b <;> simp_all
theorem mem_yes {b : Bool} {i n : Nat} (h : i ∈ (if b = true then [n] else [])) : i = n ∧ b = true := by cases b <;> simp_all
theorem pr2 : ∀ {a b : Bool}, (a && !b) = true → a = true ∧ b = false := by decide
theorem pr3 : ∀ {a b c : Bool}, (a && b && !c) = true → a = true ∧ b = true ∧ c = false := by decide
structure St (wb w : World) (xo ta tb : List Nd) (e0 d3 e4 d7 e8 d11 c12 e13 : Bool) (v3 v18 v21 v22 v25 v26 v29 v30 : Value) : Prop where
  base : Below wb.heap.size wb w
  o : e0 = true → ∃ g, v18 = .slice (some ⟨g, 0, none⟩) 0 0
  a : e4 = true → ∃ g, v22 = .slice (some ⟨g, 0, none⟩) 0 0
  b : e8 = true → ∃ g, v26 = .slice (some ⟨g, 0, none⟩) 0 0
  co : d3 = true → Cp w v21 xo
  ca : d7 = true → Cp w v25 ta
  cb : d11 = true → Cp w v29 tb
  ag : c12 = true → v30 = .agg #[v21, v25, v29]
  bx : e13 = true → ∃ g, v3 = .pointer (some ⟨g, 0, none⟩) ∧ wb.heap.size ≤ g ∧ w.heap[g]? = some (.cells #[.slice none 0 0, .slice none 0 0, .slice none 0 0] 24 (0, 0))
theorem St.below {wb w w' : World} {xo ta tb : List Nd} {e0 d3 e4 d7 e8 d11 c12 e13 : Bool} {v3 v18 v21 v22 v25 v26 v29 v30 : Value} (h : St wb w xo ta tb e0 d3 e4 d7 e8 d11 c12 e13 v3 v18 v21 v22 v25 v26 v29 v30) (hb : Below w.heap.size w w') : St wb w' xo ta tb e0 d3 e4 d7 e8 d11 c12 e13 v3 v18 v21 v22 v25 v26 v29 v30 :=
  { h with base := h.base.trans (hb.mono h.base.size), co := fun e => (h.co e).below hb, ca := fun e => (h.ca e).below hb, cb := fun e => (h.cb e).below hb, bx := fun e => (h.bx e).elim fun g h1 => ⟨g, h1.1, h1.2.1, trow h1.2.2 hb⟩ }
set_option maxRecDepth 100000 in
set_option maxHeartbeats 25600000 in
theorem tells12_law (ao aa ab : Option Addr) (co ca cb : Nat) (xo ta tb : List Nd) (w : World) (he : NF.Env w) (lo : In w ao co xo) (la : In w aa ca ta) (lb : In w ab cb tb) (so : Lst w ao co xo) (sa : Lst w aa ca ta) (sb : Lst w ab cb tb) :
    Calls Tryz.prog 3 #[.agg #[.slice ao xo.length co, .slice aa ta.length ca, .slice ab tb.length cb]] w fun r w' => r = .returned (.bool true) ∧ Below w.heap.size w w' := by
  have CW : Hid (∀ W, Below w.heap.size w W → Calls Tryz.prog 4 #[] W fun r w' => r = .returned (.bool true) ∧ Below W.heap.size W w') := Lib.hid (fun W hW => awake_any W (he.below hW))
  have HLo := Lib.hid lo
  have HLa := Lib.hid la
  have HLb := Lib.hid lb
  have HSo := Lib.hid so
  have HSa := Lib.hid sa
  have HSb := Lib.hid sb
  obtain ⟨no, hno⟩ : ∃ n, xo.length = n := ⟨_, rfl⟩
  obtain ⟨na, hna⟩ : ∃ n, ta.length = n := ⟨_, rfl⟩
  obtain ⟨nb, hnb⟩ : ∃ n, tb.length = n := ⟨_, rfl⟩
  have CSm := Lib.hid (fun W => small12_any ao aa ab no na nb co ca cb W)
  obtain ⟨L, hL⟩ : ∃ L, itL xo ta tb = L := ⟨_, rfl⟩
  obtain ⟨T, hT⟩ : ∃ T, agL xo ta tb = T := ⟨_, rfl⟩
  obtain ⟨E, hE⟩ : ∃ E, erL xo ta tb = E := ⟨_, rfl⟩
  have hLl : L.length ≤ 3003 := by rw [← hL]; exact itL_len xo ta tb
  have hTl : T.length ≤ 3003 := by rw [← hT]; exact agL_len xo ta tb
  have CI := fun (W : World) (b1 b2 b3 : Option Addr) (d1 d2 d3 : Nat) (h0 : NF.Env W) (h1 : In W b1 d1 xo) (h2 : In W b2 d2 ta) (h3 : In W b3 d3 tb) => itL_any h0 h1 h2 h3
  have CA := fun (W : World) (b1 b2 b3 : Option Addr) (d1 d2 d3 : Nat) (h0 : NF.Env W) (h1 : In W b1 d1 xo) (h2 : In W b2 d2 ta) (h3 : In W b3 d3 tb) => agLN_any h0 h1 h2 h3
  have DI := fun (W : World) (hW : Below w.heap.size w W) => ritems_any (so.below hW) (sa.below hW) (sb.below hW)
  have DA := fun (W : World) (hW : Below w.heap.size w W) => ragreeAll_any (so.below hW) (sa.below hW) (sb.below hW)
  have ST : ∀ W a1 c1 a2 c2, LayN W a1 T → LayN W a2 T → Calls Tryz.prog 11 #[.slice a1 T.length c1, .slice a2 T.length c2] W fun r w' => r = .returned (.bool true) ∧ Below W.heap.size W w' := fun W a1 c1 a2 c2 h1 h2 => by
    have := rsame_any a1 a2 c1 c2 T T W h1 h2 (by unfold maxLen; omega) (by unfold maxLen; omega)
    rw [decide_eq_true rfl] at this
    exact this
  have SL : ∀ W a1 c1 a2 c2, LayI W a1 L → LayI W a2 L → Calls Tryz.prog 10 #[.slice a1 L.length c1, .slice a2 L.length c2] W fun r w' => r = .returned (.bool true) ∧ Below W.heap.size W w' := fun W a1 c1 a2 c2 h1 h2 => by
    have := rsame12_any a1 a2 c1 c2 L L W h1 h2 (by omega) (by omega)
    rw [decide_eq_true rfl] at this
    exact this
  have SX : ∀ (l : List Nd), l.length ≤ maxLen → ∀ W a1 c1 a2 c2, LayN W a1 l → LayN W a2 l → Calls Tryz.prog 11 #[.slice a1 l.length c1, .slice a2 l.length c2] W fun r w' => r = .returned (.bool true) ∧ Below W.heap.size W w' := fun l hl W a1 c1 a2 c2 h1 h2 => by
    have := rsame_any a1 a2 c1 c2 l l W h1 h2 hl hl
    rw [decide_eq_true rfl] at this
    exact this
  have SO := SX xo lo.max
  have SA := SX ta la.max
  have SB := SX tb lb.max
  obtain ⟨nL, hnL⟩ : ∃ n, L.length = n := ⟨_, rfl⟩
  obtain ⟨nT, hnT⟩ : ∃ n, T.length = n := ⟨_, rfl⟩
  rw [hL, hE, hno, hna, hnb] at CI DI
  rw [hT, hE, hno, hna, hnb] at CA DA
  rw [hnL] at CI DI SL hLl
  rw [hnT] at CA DA ST hTl
  rw [hno] at SO
  rw [hna] at SA
  rw [hnb] at SB
  have CI := Lib.hid CI
  have CA := Lib.hid CA
  have DI := Lib.hid DI
  have DA := Lib.hid DA
  have ST := Lib.hid ST
  have SL := Lib.hid SL
  have SO := Lib.hid SO
  have SA := Lib.hid SA
  have SB := Lib.hid SB
  have HNT := Lib.hid hnT
  have HE := Lib.hid he
  have hEE : (E != E) = false := by simp
  clear SX hL hT hE hnL hnT
  have HNo := Lib.hid hno
  have HNa := Lib.hid hna
  have HNb := Lib.hid hnb
  obtain ⟨sm, hsm⟩ : ∃ sm, (decide (no ≤ 60) && (decide (na ≤ 60) && decide (nb ≤ 60))) = sm := ⟨_, rfl⟩
  rw [hsm] at CSm
  have HSM := Lib.hid hsm
  rw [hno, hna, hnb]
  clear he lo la lb so sa sb hno hna hnb hsm
  have A0 : Hid (Below w.heap.size w (w.alloc (.cells #[.slice ao no co, .slice aa na ca, .slice ab nb cb] 24))) := Lib.hid ((Below.refl _ _).alloc (Nat.le_refl _) _)
  have R0 : Hid ((w.alloc (.cells #[.slice ao no co, .slice aa na ca, .slice ab nb cb] 24)).heap[w.heap.size]? = some (.cells #[.slice ao no co, .slice aa na ca, .slice ab nb cb] 24 (0, 0))) := Lib.hid (heap_alloc_new w _)
  go_enter Tryz.func3, Tryz.ntmps3
  repeat (first | go_skip | go_guarded | go_step | go_upon)
  refine (CW.out _ A0.out).mono ?_
  rintro r w1 ⟨rfl, hb⟩
  simp only []
  have B1 := Lib.hid (A0.out.trans (hb.mono A0.out.size))
  have R1 := Lib.hid (trow R0.out hb)
  clear hb
  obtain ⟨x0, x1, x2⟩ := tcell3 R1.out
  repeat (first | go_skip | go_guarded | go_step | go_upon)
  refine (CSm.out _).mono ?_
  rintro r w2 ⟨rfl, hb⟩
  simp only []
  have B2 := Lib.hid (B1.out.trans (hb.mono B1.out.size))
  have R2 := Lib.hid (trow R1.out hb)
  clear hb x0 x1 x2
  cases sm with
  | false =>
    repeat (first | go_skip | go_guarded | go_step | go_upon)
    go_ret
    exact ⟨rfl, B2.out⟩
  | true =>
    repeat (first | go_skip | go_guarded | go_step | go_upon)
    refine wp_region_noPanic ?_
    with_reducible refine QT.region_forkI (S := fun W' => W'.heap[w.heap.size]? = some (.cells #[.slice ao no co, .slice aa na ca, .slice ab nb cb] 24 (0, 0))) [1, 2, 5, 6, 9, 10] 8 14 (by kernel_rfl) (by kernel_rfl) ?_ ?_ ?_
    · exact fun _ _ _ _ _ h => h
    · exact R2.out
    intro _
    simp only [QT.pick, List.filterMap_cons, List.filterMap_nil, List.getElem?_cons_succ, List.getElem?_cons_zero, List.drop_succ_cons, List.drop_zero]
    iterate 6 (refine QT.wpTake_cons _ (by rfl) (by intro w' hSw; obtain ⟨x0, x1, x2⟩ := tcell3 hSw; go_simp; first | done | rfl) ?_; try simp only [Act.put, List.setIfInBounds_toArray, List.set_cons_zero, List.set_cons_succ])
    refine QT.wpTake_nil ?_
    have B3 : Hid (Below w2.heap.size w2 w2.drew) := Lib.hid (Below.refl _ _).drew
    generalize w2.drew = w3 at B3 ⊢
    have hsm : no ≤ 60 ∧ na ≤ 60 ∧ nb ≤ 60 := by have := HSM.out; rw [Bool.and_eq_true, Bool.and_eq_true] at this; exact ⟨of_decide_eq_true this.1, of_decide_eq_true this.2.1, of_decide_eq_true this.2.2⟩
    have hW3 : Hid (Below w.heap.size w w3) := Lib.hid (B2.out.trans (B3.out.mono B2.out.size))
    have hS : ∀ wa : World, Below w3.heap.size w3 wa → wa.heap[w.heap.size]? = some (.cells #[.slice ao no co, .slice aa na ca, .slice ab nb cb] 24 (0, 0)) := fun wa hb => trow (trow R2.out B3.out) hb
    refine QT.forkI_inv (fun k listed a wa => ∃ (e0 d3 e4 d7 e8 d11 c12 e13 : Bool) (v3 v18 v21 v22 v25 v26 v29 v30 : Value), cntF e0 d3 e4 d7 e8 d11 c12 e13 = k ∧ okF e0 d3 e4 d7 e8 d11 c12 = true ∧ listed = #[e0, true, true, d3, e4, true, true, d7, e8, true, true, d11, c12, e13, false] ∧ a = { tmps := #[.agg #[.slice ao no co, .slice aa na ca, .slice ab nb cb], .pointer (some ⟨w.heap.size, 0, none⟩), .bool false, v3, undef, undef, undef, undef, undef, undef, undef, undef, undef, .bool true, .bool false, .agg #[.slice ao no co, .slice aa na ca, .slice ab nb cb], .bool true, .bool false, v18, .pointer (some ⟨w.heap.size, 0, none⟩), .slice ao no co, v21, v22, .pointer (some ⟨w.heap.size, 1, none⟩), .slice aa na ca, v25, v26, .pointer (some ⟨w.heap.size, 2, none⟩), .slice ab nb cb, v29, v30, undef, undef, undef, undef, undef, undef, undef, undef, undef, undef, undef, undef, undef, undef, undef, undef, undef, undef, undef, undef, undef, undef, undef, undef, undef, undef, undef, undef, undef, undef, undef, undef, undef, undef, undef, undef, undef, undef, undef, undef, undef, undef, undef, undef, undef, undef, undef, undef, undef, undef, undef, undef, undef, undef, undef, undef, undef, undef, undef, undef, undef, undef, undef, undef, undef, undef, undef, undef, undef, undef, undef, undef, undef, undef, undef, undef, undef, undef, undef, undef, undef, undef, undef, undef, undef, undef, undef, undef, undef], defers := [] } ∧ St w3 wa xo ta tb e0 d3 e4 d7 e8 d11 c12 e13 v3 v18 v21 v22 v25 v26 v29 v30) ?_ ?_ 8 _ _ _ ?_
    · rintro listed a wa ⟨e0, d3, e4, d7, e8, d11, c12, e13, v3, v18, v21, v22, v25, v26, v29, v30, hk, hok, rfl, rfl, st⟩
      unfold cntF at hk
      obtain rfl := flz e0 (by omega)
      obtain rfl := flz d3 (by omega)
      obtain rfl := flz e4 (by omega)
      obtain rfl := flz d7 (by omega)
      obtain rfl := flz e8 (by omega)
      obtain rfl := flz d11 (by omega)
      obtain rfl := flz c12 (by omega)
      obtain rfl := flz e13 (by omega)
      refine ⟨by kernel_rfl, ?_⟩
      obtain ⟨g3, rfl, hg3, hr3⟩ := st.bx rfl
      obtain ⟨a1, c1, e1, l1, z1, k1⟩ := st.co rfl
      obtain ⟨a2, c2, e2, l2, z2, k2⟩ := st.ca rfl
      obtain ⟨a3, c3, e3, l3, z3, k3⟩ := st.cb rfl
      obtain ⟨g18, rfl⟩ := st.o rfl
      obtain ⟨g22, rfl⟩ := st.a rfl
      obtain ⟨g26, rfl⟩ := st.b rfl
      obtain rfl := st.ag rfl
      rw [HNo.out] at e1 k1
      rw [HNa.out] at e2 k2
      rw [HNb.out] at e3 k3
      subst e1 e2 e3
      have HBa := Lib.hid st.base
      have HR3 := Lib.hid hr3
      have HI1 : Hid (In wa a1 c1 xo) := Lib.hid ⟨l1, z1, by rw [HNo.out]; exact k1, HLo.out.long, HLo.out.max⟩
      have HI2 : Hid (In wa a2 c2 ta) := Lib.hid ⟨l2, z2, by rw [HNa.out]; exact k2, HLa.out.long, HLa.out.max⟩
      have HI3 : Hid (In wa a3 c3 tb) := Lib.hid ⟨l3, z3, by rw [HNb.out]; exact k3, HLb.out.long, HLb.out.max⟩
      obtain ⟨y0, y1, y2, yf⟩ := trow3 hr3
      clear hk hok hS l1 l2 l3 z1 z2 z3 k1 k2 k3 st
      simp only [List.drop_succ_cons, List.drop_zero]
      repeat (first | go_skip | go_guarded | go_step | go_upon)
      refine NoPanic.normal ?_
      have gz := tgrown3 wa g3 (.slice a1 no c1) (.slice a2 na c2) (.slice a3 nb c3)
      have rz := tset3 wa g3 (.slice a1 no c1) (.slice a2 na c2) (.slice a3 nb c3) HR3.out
      obtain ⟨w4, hw4⟩ : ∃ W, (((wa.setCell ⟨g3, 0, none⟩ (.slice a1 no c1)).setCell ⟨g3, 1, none⟩ (.slice a2 na c2)).setCell ⟨g3, 2, none⟩ (.slice a3 nb c3)) = W := ⟨_, rfl⟩
      rw [hw4] at gz rz ⊢
      have J1 : Hid (In w4 a1 c1 xo) := Lib.hid ⟨tkeep3 HI1.out.lay HR3.out gz, HI1.out.no, HI1.out.cap, HI1.out.long, HI1.out.max⟩
      have J2 : Hid (In w4 a2 c2 ta) := Lib.hid ⟨tkeep3 HI2.out.lay HR3.out gz, HI2.out.no, HI2.out.cap, HI2.out.long, HI2.out.max⟩
      have J3 : Hid (In w4 a3 c3 tb) := Lib.hid ⟨tkeep3 HI3.out.lay HR3.out gz, HI3.out.no, HI3.out.cap, HI3.out.long, HI3.out.max⟩
      have hb4 : Below w3.heap.size w3 w4 := HBa.out.trans (below_of_grown gz hg3 HBa.out.size)
      have B4 : Hid (Below w.heap.size w w4) := Lib.hid (hW3.out.trans (hb4.mono hW3.out.size))
      have HX := Lib.hid (fun (W : World) (hW : Below w4.heap.size w4 W) => tcell3 (trow (trow (trow R2.out B3.out) hb4) hW))
      have HY := Lib.hid (fun (W : World) (hW : Below w4.heap.size w4 W) => tcell3 (trow rz hW))
      have TRW : Hid (∀ W, Below w4.heap.size w4 W → Below w.heap.size w W) := Lib.hid (fun W hW => B4.out.trans (hW.mono B4.out.size))
      clear hw4 gz rz hb4 hg3 hr3 y0 y1 y2 yf HI1 HI2 HI3 HR3 HBa R0 R1
      obtain ⟨y0, y1, y2⟩ := HY.out _ (Below.refl _ _)
      repeat (first | go_skip | go_guarded | go_step | go_upon)
      refine (CI.out _ _ _ _ _ _ _ (HE.out.below B4.out) J1.out J2.out J3.out).mono ?_
      rintro r w5 ⟨u5, d5, rfl, hl5, hb5⟩
      simp only []
      have B5 : Hid (Below w4.heap.size w4 w5) := Lib.hid hb5
      have L5 := Lib.hid hl5
      clear hb5 hl5 y0 y1 y2
      obtain ⟨x0, x1, x2⟩ := HX.out _ B5.out
      repeat (first | go_skip | go_guarded | go_step | go_upon)
      refine (DI.out _ (TRW.out _ B5.out)).mono ?_
      rintro r w6 ⟨u6, d6, rfl, hl6, hb6⟩
      simp only []
      have B6 : Hid (Below w4.heap.size w4 w6) := Lib.hid (B5.out.trans (hb6.mono B5.out.size))
      have L5 := Lib.hid (L5.out.below hb6)
      have L6 := Lib.hid hl6
      clear hb6 hl6 x0 x1 x2
      obtain ⟨y0, y1, y2⟩ := HY.out _ B6.out
      repeat (first | go_skip | go_guarded | go_step | go_upon)
      refine (CA.out _ _ _ _ _ _ _ (HE.out.below (TRW.out _ B6.out)) (J1.out.below B6.out) (J2.out.below B6.out) (J3.out.below B6.out)).mono ?_
      rintro r w7 ⟨u7, d7, rfl, hl7, hn7, hb7⟩
      simp only []
      have B7 : Hid (Below w4.heap.size w4 w7) := Lib.hid (B6.out.trans (hb7.mono B6.out.size))
      have B67 : Hid (Below w6.heap.size w6 w7) := Lib.hid hb7
      have L5 := Lib.hid (L5.out.below hb7)
      have L6 := Lib.hid (L6.out.below hb7)
      have L7 := Lib.hid hl7
      have N7 := Lib.hid hn7
      clear hb7 hl7 hn7 y0 y1 y2
      obtain ⟨x0, x1, x2⟩ := HX.out _ B7.out
      repeat (first | go_skip | go_guarded | go_step | go_upon)
      refine (DA.out _ (TRW.out _ B7.out)).mono ?_
      rintro r w8 ⟨u8, d8, rfl, hl8, hb8⟩
      simp only []
      have B8 : Hid (Below w4.heap.size w4 w8) := Lib.hid (B7.out.trans (hb8.mono B7.out.size))
      have B78 : Hid (Below w7.heap.size w7 w8) := Lib.hid hb8
      have L5 := Lib.hid (L5.out.below hb8)
      have L6 := Lib.hid (L6.out.below hb8)
      have L7 := Lib.hid (L7.out.below hb8)
      have L8 := Lib.hid hl8
      clear hb8 hl8 x0 x1 x2
      repeat (first | go_skip | go_guarded | go_step | go_upon)
      refine (SL.out _ _ _ _ _ L5.out L6.out).mono ?_
      rintro r w9 ⟨rfl, hb9⟩
      simp only []
      have B9 : Hid (Below w4.heap.size w4 w9) := Lib.hid (B8.out.trans (hb9.mono B8.out.size))
      have B79 : Hid (Below w7.heap.size w7 w9) := Lib.hid (B78.out.trans (hb9.mono B78.out.size))
      have L7 := Lib.hid (L7.out.below hb9)
      have L8 := Lib.hid (L8.out.below hb9)
      clear hb9
      repeat (first | go_skip | go_guarded | go_step | go_upon)
      refine (ST.out _ _ _ _ _ L7.out L8.out).mono ?_
      rintro r w10 ⟨rfl, hb10⟩
      simp only []
      have B10 : Hid (Below w4.heap.size w4 w10) := Lib.hid (B9.out.trans (hb10.mono B9.out.size))
      have B710 : Hid (Below w7.heap.size w7 w10) := Lib.hid (B79.out.trans (hb10.mono B79.out.size))
      have B610 : Hid (Below w6.heap.size w6 w10) := Lib.hid (B67.out.trans (B710.out.mono B67.out.size))
      have L7 := Lib.hid (L7.out.below hb10)
      clear hb10
      repeat (first | go_skip | go_guarded | go_step | go_upon)
      have hS0 : ∀ g o, u7 = some ⟨g, o, none⟩ → ∃ cur t, w10.heap[g]? = some (.cells cur t (0, 0)) ∧ ∀ j, j < nT → o + j * 4 + 1 < cur.size := fun g o e => by
        obtain ⟨cur, t, h⟩ := ((N7.out g o e).2).below B710.out
        refine ⟨cur, t, h, fun j hj => ?_⟩
        obtain ⟨g', o', e', _, hc⟩ := L7.out (by rw [HNT.out]; omega)
        rw [e] at e'
        injection e' with e'
        injection e' with e1 e2
        subst e1 e2
        obtain ⟨x, hx⟩ : ∃ x, T[j]? = some x := ⟨T[j]'(by rw [HNT.out]; exact hj), List.getElem?_eq_getElem _⟩
        have := (hc j x hx).k
        rw [cell_of_row w10 g _ _ _ _ h] at this
        exact (Array.getElem?_eq_some_iff.1 this).1
      go_loopw [93] (fun s93 wr => ∃ k : Nat, s93 = .int .i64 k ∧ k ≤ nT ∧ Below w6.heap.size w10 wr ∧ ∀ g o, u7 = some ⟨g, o, none⟩ → ∃ cur t, wr.heap[g]? = some (.cells cur t (0, 0)) ∧ ∀ j, j < nT → o + j * 4 + 1 < cur.size) (fun s93 _ => nT - (Go.RowKit.intOf s93).toNat)
      case atStart => exact ⟨0, rfl, Nat.zero_le _, Below.refl _ _, hS0⟩
      case round =>
        obtain ⟨k, rfl, hk, hbk, hrow⟩ := hrel
        have HBk := Lib.hid hbk
        have HRow := Lib.hid hrow
        clear hbk hrow hS0
        by_cases hlt : k < nT
        · have hkz : (k : Int) < nT := by omega
          obtain ⟨g, o, e, _, _⟩ := L7.out (by rw [HNT.out]; omega)
          obtain ⟨cur, t, hr, hlen⟩ := HRow.out g o e
          have hgl : w6.heap.size ≤ g := Nat.le_trans (Nat.le_refl _) (N7.out g o e).1
          have hc : wr.cell? ⟨g, o + k * 4 + 1, none⟩ = some (cur[o + k * 4 + 1]'(hlen k hlt)) := by rw [cell_of_row wr g _ _ _ _ hr]; exact Array.getElem?_eq_getElem _
          have hfz : ∀ j, wr.frozen? ⟨g, j, none⟩ = false := fun j => frozen_of_row wr g j _ _ hr
          have HRr := Lib.hid hr
          have HLn := Lib.hid hlen
          have HEq := Lib.hid e
          obtain ⟨cv, hcv⟩ : ∃ cv, cur[o + k * 4 + 1]'(hlen k hlt) = cv := ⟨_, rfl⟩
          rw [hcv] at hc
          subst e
          clear hr hlen hcv hlt
          repeat (first | go_skip | go_guarded | go_step | go_upon)
          have hs6 : w6.heap.size ≤ wr.heap.size := Nat.le_trans B610.out.size HBk.out.size
          refine ⟨⟨k + 1, by go_num, by omega, HBk.out.trans (below_of_grown (grown_set wr ⟨g, o + k * 4 + 1, none⟩ _) hgl hs6), fun g' o' e' => ?_⟩, by simp [Go.RowKit.intOf]; omega⟩
          injection e' with e'
          injection e' with e1 e2
          subst e1 e2
          exact ⟨_, t, heap_setCell_same wr g _ cur t _ HRr.out, fun j hj => by rw [Array.size_setIfInBounds]; exact HLn.out j hj⟩
        · have hkz : ¬ (k : Int) < nT := by omega
          have B11 : Hid (Below w4.heap.size w4 wr) := Lib.hid (B10.out.trans (HBk.out.mono B6.out.size))
          clear hlt
          obtain ⟨x0, x1, x2⟩ := HX.out _ B11.out
          obtain ⟨y0, y1, y2⟩ := HY.out _ B11.out
          repeat (first | go_skip | go_guarded | go_step | go_upon)
          refine (SO.out _ _ _ _ _ (J1.out.below B11.out).lay (HLo.out.lay.below (TRW.out _ B11.out))).mono ?_
          rintro r w12 ⟨rfl, hb⟩
          simp only []
          have B12 : Hid (Below w4.heap.size w4 w12) := Lib.hid (B11.out.trans (hb.mono B11.out.size))
          clear hb x0 x1 x2 y0 y1 y2
          obtain ⟨x0, x1, x2⟩ := HX.out _ B12.out
          obtain ⟨y0, y1, y2⟩ := HY.out _ B12.out
          repeat (first | go_skip | go_guarded | go_step | go_upon)
          refine (SA.out _ _ _ _ _ (J2.out.below B12.out).lay (HLa.out.lay.below (TRW.out _ B12.out))).mono ?_
          rintro r w13 ⟨rfl, hb⟩
          simp only []
          have B13 : Hid (Below w4.heap.size w4 w13) := Lib.hid (B12.out.trans (hb.mono B12.out.size))
          clear hb x0 x1 x2 y0 y1 y2
          obtain ⟨x0, x1, x2⟩ := HX.out _ B13.out
          obtain ⟨y0, y1, y2⟩ := HY.out _ B13.out
          repeat (first | go_skip | go_guarded | go_step | go_upon)
          refine (SB.out _ _ _ _ _ (J3.out.below B13.out).lay (HLb.out.lay.below (TRW.out _ B13.out))).mono ?_
          rintro r w14 ⟨rfl, hb⟩
          simp only []
          have B14 : Hid (Below w4.heap.size w4 w14) := Lib.hid (B13.out.trans (hb.mono B13.out.size))
          clear hb x0 x1 x2 y0 y1 y2
          repeat (first | go_skip | go_guarded | go_step | go_upon)
          go_ret
          exact ⟨rfl, TRW.out _ B14.out⟩
    · rintro k listed a wa ⟨e0, d3, e4, d7, e8, d11, c12, e13, v3, v18, v21, v22, v25, v26, v29, v30, hk, hok, rfl, rfl, st⟩
      refine ⟨rdy e0 d3 e4 d7 e8 d11 c12 e13, ?_, ?_⟩
      · have hk' : ¬ cntF e0 d3 e4 d7 e8 d11 c12 e13 = 0 := by omega
        clear hk st hS
        revert e0 d3 e4 d7 e8 d11 c12 e13
        exact of_decide_eq_true (by kernel_rfl)
      · intro i hi o ho K' hK
        have hWa : Below w.heap.size w wa := hW3.out.trans (st.base.mono hW3.out.size)
        unfold rdy at hi
        simp only [List.mem_append] at hi
        rcases hi with ((((((h | h) | h) | h) | h) | h) | h) | h
        · obtain ⟨rfl, rfl⟩ := mem_no h
          simp only [List.getElem?_toArray, List.getElem?_cons_succ, List.getElem?_cons_zero, Option.some.injEq] at ho
          subst ho
          rw [if_pos (by rfl)]
          go_simp
          have hb : Below wa.heap.size wa (wa.alloc (.cells #[] 40)) := (Below.refl _ _).alloc (Nat.le_refl _) _
          refine hK.out _ _ (hS _ (st.base.trans (hb.mono st.base.size))) ?_
          refine ⟨true, d3, e4, d7, e8, d11, c12, e13, v3, .slice (some ⟨wa.heap.size, 0, none⟩) 0 0, v21, v22, v25, v26, v29, v30, by unfold cntF at hk ⊢; simp only [Bool.not_true, Bool.not_false, Bool.toNat_true, Bool.toNat_false] at hk ⊢; omega, fl0 _ _ _ _ _ _ hok, rfl, rfl, ?_⟩
          exact { st.below hb with o := fun _ => ⟨_, rfl⟩ }
        · obtain ⟨rfl, hc⟩ := mem_yes h
          obtain ⟨rfl, rfl⟩ := pr2 hc
          simp only [List.getElem?_toArray, List.getElem?_cons_succ, List.getElem?_cons_zero, Option.some.injEq] at ho
          subst ho
          obtain ⟨g, rfl⟩ := st.o rfl
          obtain ⟨v', w5, hrun, hcp, hb⟩ := copy_empty wa g co ao xo (HLo.out.lay.below hWa) (by rw [HNo.out]; exact Nat.le_trans (hsm.1) (by decide))
          rw [HNo.out] at hrun
          refine rt_app rfl (.tmp 18) (.tmp 20) 22 22 rfl _ _ rfl rfl hrun ?_
          refine hK.out _ _ (hS _ (st.base.trans (hb.mono st.base.size))) ?_
          obtain ⟨hok2, hc12⟩ := fl3 _ _ _ _ _ hok
          refine ⟨true, true, e4, d7, e8, d11, c12, e13, v3, _, v', v22, v25, v26, v29, v30, by unfold cntF at hk ⊢; simp only [Bool.not_true, Bool.not_false, Bool.toNat_true, Bool.toNat_false] at hk ⊢; omega, hok2, rfl, rfl, ?_⟩
          exact { st.below hb with co := fun _ => hcp, ag := fun e => absurd e (by rw [hc12]; decide) }
        · obtain ⟨rfl, rfl⟩ := mem_no h
          simp only [List.getElem?_toArray, List.getElem?_cons_succ, List.getElem?_cons_zero, Option.some.injEq] at ho
          subst ho
          rw [if_pos (by rfl)]
          go_simp
          have hb : Below wa.heap.size wa (wa.alloc (.cells #[] 40)) := (Below.refl _ _).alloc (Nat.le_refl _) _
          refine hK.out _ _ (hS _ (st.base.trans (hb.mono st.base.size))) ?_
          refine ⟨e0, d3, true, d7, e8, d11, c12, e13, v3, v18, v21, .slice (some ⟨wa.heap.size, 0, none⟩) 0 0, v25, v26, v29, v30, by unfold cntF at hk ⊢; simp only [Bool.not_true, Bool.not_false, Bool.toNat_true, Bool.toNat_false] at hk ⊢; omega, fl4 _ _ _ _ _ _ hok, rfl, rfl, ?_⟩
          exact { st.below hb with a := fun _ => ⟨_, rfl⟩ }
        · obtain ⟨rfl, hc⟩ := mem_yes h
          obtain ⟨rfl, rfl, rfl⟩ := pr3 hc
          simp only [List.getElem?_toArray, List.getElem?_cons_succ, List.getElem?_cons_zero, Option.some.injEq] at ho
          subst ho
          obtain ⟨g, rfl⟩ := st.a rfl
          obtain ⟨v', w5, hrun, hcp, hb⟩ := copy_empty wa g ca aa ta (HLa.out.lay.below hWa) (by rw [HNa.out]; exact Nat.le_trans (hsm.2.1) (by decide))
          rw [HNa.out] at hrun
          refine rt_app rfl (.tmp 22) (.tmp 24) 22 22 rfl _ _ rfl rfl hrun ?_
          refine hK.out _ _ (hS _ (st.base.trans (hb.mono st.base.size))) ?_
          obtain ⟨hok2, hc12⟩ := fl7 _ _ _ _ hok
          refine ⟨e0, true, true, true, e8, d11, c12, e13, v3, v18, v21, _, v', v26, v29, v30, by unfold cntF at hk ⊢; simp only [Bool.not_true, Bool.not_false, Bool.toNat_true, Bool.toNat_false] at hk ⊢; omega, hok2, rfl, rfl, ?_⟩
          exact { st.below hb with ca := fun _ => hcp, ag := fun e => absurd e (by rw [hc12]; decide) }
        · obtain ⟨rfl, rfl⟩ := mem_no h
          simp only [List.getElem?_toArray, List.getElem?_cons_succ, List.getElem?_cons_zero, Option.some.injEq] at ho
          subst ho
          rw [if_pos (by rfl)]
          go_simp
          have hb : Below wa.heap.size wa (wa.alloc (.cells #[] 40)) := (Below.refl _ _).alloc (Nat.le_refl _) _
          refine hK.out _ _ (hS _ (st.base.trans (hb.mono st.base.size))) ?_
          refine ⟨e0, d3, e4, d7, true, d11, c12, e13, v3, v18, v21, v22, v25, .slice (some ⟨wa.heap.size, 0, none⟩) 0 0, v29, v30, by unfold cntF at hk ⊢; simp only [Bool.not_true, Bool.not_false, Bool.toNat_true, Bool.toNat_false] at hk ⊢; omega, fl8 _ _ _ _ _ _ hok, rfl, rfl, ?_⟩
          exact { st.below hb with b := fun _ => ⟨_, rfl⟩ }
        · obtain ⟨rfl, hc⟩ := mem_yes h
          obtain ⟨rfl, rfl, rfl⟩ := pr3 hc
          simp only [List.getElem?_toArray, List.getElem?_cons_succ, List.getElem?_cons_zero, Option.some.injEq] at ho
          subst ho
          obtain ⟨g, rfl⟩ := st.b rfl
          obtain ⟨v', w5, hrun, hcp, hb⟩ := copy_empty wa g cb ab tb (HLb.out.lay.below hWa) (by rw [HNb.out]; exact Nat.le_trans (hsm.2.2) (by decide))
          rw [HNb.out] at hrun
          refine rt_app rfl (.tmp 26) (.tmp 28) 22 22 rfl _ _ rfl rfl hrun ?_
          refine hK.out _ _ (hS _ (st.base.trans (hb.mono st.base.size))) ?_
          obtain ⟨hok2, hc12⟩ := fl11 _ _ _ _ hok
          refine ⟨e0, d3, e4, true, true, true, c12, e13, v3, v18, v21, v22, v25, _, v', v30, by unfold cntF at hk ⊢; simp only [Bool.not_true, Bool.not_false, Bool.toNat_true, Bool.toNat_false] at hk ⊢; omega, hok2, rfl, rfl, ?_⟩
          exact { st.below hb with cb := fun _ => hcp, ag := fun e => absurd e (by rw [hc12]; decide) }
        · obtain ⟨rfl, hc⟩ := mem_yes h
          obtain ⟨rfl, rfl⟩ := pr2 hc
          obtain ⟨hok2, rfl, rfl⟩ := fl12 _ _ _ _ _ hok
          simp only [List.getElem?_toArray, List.getElem?_cons_succ, List.getElem?_cons_zero, Option.some.injEq] at ho
          subst ho
          obtain ⟨a1, c1, rfl, h1⟩ := st.co rfl
          obtain ⟨a2, c2, rfl, h2⟩ := st.ca rfl
          obtain ⟨a3, c3, rfl, h3⟩ := st.cb rfl
          rw [if_pos (by rfl)]
          go_simp
          refine hK.out _ _ (hS _ st.base) ?_
          refine ⟨e0, true, e4, true, e8, true, true, e13, v3, v18, _, v22, _, v26, _, _, by unfold cntF at hk ⊢; simp only [Bool.not_true, Bool.not_false, Bool.toNat_true, Bool.toNat_false] at hk ⊢; omega, hok2, rfl, rfl, ?_⟩
          exact { st with ag := fun _ => rfl }
        · obtain ⟨rfl, rfl⟩ := mem_no h
          simp only [List.getElem?_toArray, List.getElem?_cons_succ, List.getElem?_cons_zero, Option.some.injEq] at ho
          subst ho
          rw [if_pos (by rfl)]
          go_simp
          have hb : Below wa.heap.size wa (wa.alloc (.cells #[.slice none 0 0, .slice none 0 0, .slice none 0 0] 24)) := (Below.refl _ _).alloc (Nat.le_refl _) _
          refine hK.out _ _ (hS _ (st.base.trans (hb.mono st.base.size))) ?_
          refine ⟨e0, d3, e4, d7, e8, d11, c12, true, .pointer (some ⟨wa.heap.size, 0, none⟩), v18, v21, v22, v25, v26, v29, v30, by unfold cntF at hk ⊢; simp only [Bool.not_true, Bool.not_false, Bool.toNat_true, Bool.toNat_false] at hk ⊢; omega, hok, rfl, rfl, ?_⟩
          exact { st.below hb with bx := fun _ => ⟨_, rfl, st.base.size, heap_alloc_new wa _⟩ }
    · exact ⟨false, false, false, false, false, false, false, false, undef, undef, undef, undef, undef, undef, undef, undef, rfl, rfl, by kernel_rfl, rfl, { base := Below.refl _ _, o := fun h => (by cases h), a := fun h => (by cases h), b := fun h => (by cases h), co := fun h => (by cases h), ca := fun h => (by cases h), cb := fun h => (by cases h), ag := fun h => (by cases h), bx := fun h => (by cases h) }⟩
end RC
end Go.Proofs.YtmpmmebmhffaeaaGreatDoor
