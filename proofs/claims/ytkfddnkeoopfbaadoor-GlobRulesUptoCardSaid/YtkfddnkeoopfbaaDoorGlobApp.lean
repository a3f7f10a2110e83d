/- Lists of rules put one behind the other: append of whatever slice of rules onto a row that the call owns, in a plain region and in one that draws its order. -/
import Derived.Test.YtkfddnkeoopfbaaDoorGlobIgn
import Derived.Deep.AppendLies
import Derived.Laws.AppendOwnNone
namespace Go.Proofs.YtkfddnkeoopfbaaDoor
open Go.RowKit Go.Lib
namespace GA
open GP GM GH GI

def ruCells (rs : List Rl) : List Value := rs.flatMap fun r => [.bool r.1, .string r.2]
theorem flat2_inv {α : Type} (f g : α → Value) : ∀ (l : List α) (j : Nat) (u : Value), (l.flatMap fun t => [f t, g t])[j]? = some u → ∃ k x, l[k]? = some x ∧ ((j = k * 2 ∧ u = f x) ∨ (j = k * 2 + 1 ∧ u = g x))
  | [], j, u, h => by simp at h
  | a :: l, 0, u, h => by simp at h; exact ⟨0, a, rfl, .inl ⟨rfl, h.symm⟩⟩
  | a :: l, 1, u, h => by simp at h; exact ⟨0, a, rfl, .inr ⟨rfl, h.symm⟩⟩
  | a :: l, j + 2, u, h => by
    have h2 : (l.flatMap fun t => [f t, g t])[j]? = some u := by simpa using h
    obtain ⟨k, x, hx, hc⟩ := flat2_inv f g l j u h2
    refine ⟨k + 1, x, by simpa using hx, ?_⟩
    rcases hc with ⟨e, hu⟩ | ⟨e, hu⟩
    · exact .inl ⟨by omega, hu⟩
    · exact .inr ⟨by omega, hu⟩
theorem ru_len (rs : List Rl) : (ruCells rs).length = rs.length * 2 := by
  unfold ruCells
  induction rs with
  | nil => rfl
  | cons a l ih => simp only [List.flatMap_cons, List.length_append, ih, List.length_cons, List.length_nil]; omega
theorem ru_one (rs : List Rl) : ∀ u ∈ ruCells rs, u.oneCell' = true := by
  intro u hu
  unfold ruCells at hu
  obtain ⟨r, _, h⟩ := List.mem_flatMap.1 hu
  simp at h
  rcases h with rfl | rfl <;> rfl
theorem ru_at {w : World} {ad : Addr} {rs : List Rl} (h : RulesAt w (some ad) rs) : ∀ j u, (ruCells rs)[j]? = some u → w.cell? (ad.add j) = some u := by
  intro j u hj
  obtain ⟨k, x, hx, hc⟩ := flat2_inv (fun r : Rl => Value.bool r.1) (fun r : Rl => Value.string r.2) rs j u hj
  have hl : 0 < rs.length := by have := (List.getElem?_eq_some_iff.1 hx).1; omega
  obtain ⟨g, o, e, _, hcells⟩ := h hl
  simp only [Option.some.injEq] at e
  subst e
  obtain ⟨c1, c2⟩ := hcells k x hx
  have hadd : ∀ i, (⟨g, o, none⟩ : Addr).add i = ⟨g, o + i, none⟩ := fun i => by unfold Addr.add; split <;> simp_all
  rw [hadd]
  rcases hc with ⟨rfl, rfl⟩ | ⟨rfl, rfl⟩
  · exact c1
  · rw [← Nat.add_assoc]; exact c2
/-- What the call owns reads as rules. -/
theorem ru_owned {w : World} {base : Nat} {v : Value} {rs : List Rl} (h : w.ownsRow base 31 2 v rs.length (ruCells rs)) : ∃ ao c, v = .slice ao rs.length c ∧ RulesAt w ao rs := by
  obtain ⟨ao, c, e, hc⟩ := owns_view h
  refine ⟨ao, c, e, fun hl => ?_⟩
  obtain ⟨g, e2, hg, _, hcells⟩ := hc hl
  refine ⟨g, 0, e2, hg, fun k r hr => ?_⟩
  obtain ⟨hk, _⟩ := List.getElem?_eq_some_iff.1 hr
  obtain ⟨c1, c2⟩ := flat2 (fun r : Rl => Value.bool r.1) (fun r : Rl => Value.string r.2) rs k r hr
  rw [Nat.zero_add, hcells _ (by omega), hcells _ (by omega)]
  exact ⟨c1, c2⟩
theorem run_app (w : World) (ty : TypeId) (base : Nat) (v : Value) (rs : List Rl) (hown : w.ownsRow base 31 2 v rs.length (ruCells rs)) (ao : Option Addr) (c : Nat) (ns : List Rl) (hn : RulesAt w ao ns) (h0 : ao = none → ns = [] ∧ c = 0)
    (hm : rs.length + ns.length ≤ 4000000) (hbase : base ≤ w.heap.size) :
    ∃ v' w', (Builtin.append_ #[24, 24] ty #[v, .slice ao ns.length c]).run Tryd.prog w = .ok v' w' ∧ w'.ownsRow base 31 2 v' (rs ++ ns).length (ruCells (rs ++ ns)) ∧ w.grownBy w' v.ownBlock := by
  have infoR : (Tryd.prog.info? 31).map (fun i => (i.zero, i.size, i.bytes)) = some (some (.agg #[.bool false, .string ByteArray.empty]), 2, 24) := by kernel_rfl
  obtain ⟨i0, hi, hz0, hz1, hz2⟩ := info_parts infoR
  have e1 : (rs ++ ns).length = rs.length + ns.length := List.length_append
  have e2 : ruCells (rs ++ ns) = ruCells rs ++ ruCells ns := by unfold ruCells; rw [List.flatMap_append]
  rw [e1, e2]
  cases ao with
  | none =>
    obtain ⟨rfl, rfl⟩ := h0 rfl
    refine ⟨v, w, run_append_owned_none (P := Tryd.prog) (w := w) base 24 ty 31 i0 2 Tryd.underlying24 hi v rs.length (ruCells rs) hown, ?_, ⟨rfl, rfl, rfl, Nat.le_refl _, fun _ _ _ => rfl⟩⟩
    have e3 : ruCells [] = [] := rfl
    rw [e3, List.append_nil]
    exact hown
  | some ad =>
    obtain ⟨v', w', h1, h2, h3, _⟩ := run_append_own (P := Tryd.prog) w base 24 ty 31 i0 (.agg #[.bool false, .string ByteArray.empty]) 2 24 Tryd.underlying24 hi hz0 hz1 hz2 rfl (by decide) v rs.length (ruCells rs) hown ad ns.length c (ruCells ns) (ru_len ns) (ru_at hn) (ru_one ns) (by unfold maxLen; omega) (by omega) hbase
    exact ⟨v', w', h1, h2, h3⟩
/-- At the operation. -/
theorem wp_app {o : Oper} {a : Act} {K : Act → World → Prop} {Q : Exit → Act → World → Prop} (w : World) (s x : Operand) (ho : o.op = .call { callee := .builtin .append, args := #[s, x], argTypes := #[24, 24] })
    (base : Nat) (v : Value) (rs : List Rl) (hs : a.eval s = v) (hown : w.ownsRow base 31 2 v rs.length (ruCells rs)) (ao : Option Addr) (c : Nat) (ns : List Rl) (hx : a.eval x = .slice ao ns.length c) (hn : RulesAt w ao ns) (h0 : ao = none → ns = [] ∧ c = 0)
    (hm : rs.length + ns.length ≤ 4000000) (hbase : base ≤ w.heap.size)
    (h : ∀ v' w', w'.ownsRow base 31 2 v' (rs ++ ns).length (ruCells (rs ++ ns)) → w.grownBy w' v.ownBlock → K (a.put o.dst v') w') : o.wp Tryd.prog a w K Q := by
  obtain ⟨v', w', hr, h2, h3⟩ := run_app w o.type base v rs hown ao c ns hn h0 hm hbase
  unfold Oper.wp execOp
  simp only [ho, resolve, invoke, builtin, Sem.run_bind, Sem.run_pure, Result.andThen_ok, List.map_toArray, List.map_cons, List.map_nil, hs, hx, hr]
  exact h v' w' h2 h3
theorem wpList_app {ops : Array Oper} {rest : List Oper} {o : Oper} {a : Act} {Q : Exit → Act → World → Prop} (w : World) (hgd : o.guard = none) (s x : Operand) (ho : o.op = .call { callee := .builtin .append, args := #[s, x], argTypes := #[24, 24] })
    (base : Nat) (v : Value) (rs : List Rl) (hs : a.eval s = v) (hown : w.ownsRow base 31 2 v rs.length (ruCells rs)) (ao : Option Addr) (c : Nat) (ns : List Rl) (hx : a.eval x = .slice ao ns.length c) (hn : RulesAt w ao ns) (h0 : ao = none → ns = [] ∧ c = 0)
    (hm : rs.length + ns.length ≤ 4000000) (hbase : base ≤ w.heap.size)
    (h : ∀ v' w', w'.ownsRow base 31 2 v' (rs ++ ns).length (ruCells (rs ++ ns)) → w.grownBy w' v.ownBlock → wpList Tryd.prog ops Q rest (a.put o.dst v') w') : wpList Tryd.prog ops Q (o :: rest) a w :=
  wpList_plain hgd fun _ hK => wp_app w s x ho base v rs hs hown ao c ns hx hn h0 hm hbase fun v' w' h2 h3 => hK _ _ (h v' w' h2 h3)
theorem step_app {ops : Array Oper} {o : Oper} {a : Act} {K : Act → World → Prop} {Q : Exit → Act → World → Prop} {E : Prop} (w : World) (hgd : o.guard = none) (s x : Operand) (ho : o.op = .call { callee := .builtin .append, args := #[s, x], argTypes := #[24, 24] })
    (base : Nat) (v : Value) (rs : List Rl) (hs : a.eval s = v) (hown : w.ownsRow base 31 2 v rs.length (ruCells rs)) (ao : Option Addr) (c : Nat) (ns : List Rl) (hx : a.eval x = .slice ao ns.length c) (hn : RulesAt w ao ns) (h0 : ao = none → ns = [] ∧ c = 0)
    (hm : rs.length + ns.length ≤ 4000000) (hbase : base ≤ w.heap.size)
    (h : ∀ v' w', w'.ownsRow base 31 2 v' (rs ++ ns).length (ruCells (rs ++ ns)) → w.grownBy w' v.ownBlock → K (a.put o.dst v') w') :
    if Region.wanted o (yielded ops a.tmps) = true then Oper.wp Tryd.prog o a w K Q else E := by
  have hw : Region.wanted o (yielded ops a.tmps) = true := by simp [Region.wanted, hgd]
  rw [if_pos hw]
  exact wp_app w s x ho base v rs hs hown ao c ns hx hn h0 hm hbase h
end GA
end Go.Proofs.YtkfddnkeoopfbaaDoor
