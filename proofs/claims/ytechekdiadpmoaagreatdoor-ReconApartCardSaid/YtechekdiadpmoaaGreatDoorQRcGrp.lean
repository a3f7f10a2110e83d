/- Layer 12: a map of lists of nodes that a call fills: what lies at each key. -/
import Derived.Test.YtechekdiadpmoaaGreatDoorQBase
import Derived.Test.YtechekdiadpmoaaGreatDoorQRcPlain
import Derived.Maps.OwnOps
import Derived.Maps.AppendAt
import Derived.Maps.Views
set_option linter.all false
set_option maxRecDepth 100000
set_option maxHeartbeats 25600000
namespace Go.Proofs.YtechekdiadpmoaaGreatDoor
open Go.RowKit Go.Lib Go.Maps
namespace RC
open OM TP TM

/-- An element of the map stands for itself. -/
def Rh (v : Value) : Option (DataW Value × List MemPlace) := some (.held v, [])
def nilS : Value := .slice none 0 0
theorem lawS : Keyed Tryz.prog 9 := string_keyed Tryz.underlying9
theorem keyS (S : ByteArray) (h : S.size ≤ maxLen) : keyOf Tryz.prog 9 (.string S) = some (.string S.data.toList) := by
  unfold keyOf
  rw [Tryz.underlying9]
  simp only
  unfold mapKey
  rw [Tryz.underlying9]
  simp [h]
structure Grp (W : World) (base b n : Nat) (D : DataW Value) (G : List UInt8 → List Nd) : Prop where
  map : W.ownsMap Tryz.prog 9 Rh b n D
  tidy : Tidy D
  own : ∀ k v, D.atKey (.string k) (.held nilS) = .held v → W.ownsRow base 40 4 v (G k).length (nodesC (G k))
  key : ∀ k, has D (.string k) = decide (G k ≠ [])
  apart : ∀ k k' v v', k ≠ k' → D.atKey (.string k) (.held nilS) = .held v → D.atKey (.string k') (.held nilS) = .held v' → v.ownBlock = none ∨ v.ownBlock ≠ v'.ownBlock
  lt : b < base
theorem keyLit (k : List UInt8) : WideAt.IsKeyLit (.string k) := trivial
theorem str_ne {k k' : List UInt8} (h : k ≠ k') : (Lit.string k) ≠ .string k' := fun e => h (by injection e)
/-- Made: nothing is there. -/
theorem grp_made (w : World) : Grp (w.alloc (.map #[] 0)) (w.heap.size + 1) w.heap.size 0 (.map []) (fun _ => []) where
  map := World.ownsMap_made _ _ _ _
  tidy := tidy_empty
  own := fun k v h => by
    have h2 : (DataW.held nilS : DataW Value) = .held v := h
    injection h2 with h2
    subst h2
    exact World.ownsRow_nil _ _ _ _
  key := fun k => by simp [Maps.has]
  apart := fun k k' v v' _ h _ => by
    have h2 : (DataW.held nilS : DataW Value) = .held v := h
    injection h2 with h2
    subst h2
    exact .inl rfl
  lt := Nat.lt_succ_self _
theorem Grp.mono {W : World} {base b n m : Nat} {D : DataW Value} {G : List UInt8 → List Nd} (h : Grp W base b n D G) (hm : n ≤ m) : Grp W base b m D G := { h with map := h.map.mono hm }
/-- What is done elsewhere leaves it. -/
theorem Grp.kept {W W' : World} {base b n : Nat} {D : DataW Value} {G : List UInt8 → List Nd} (h : Grp W base b n D G) (hg : W.grownBy W' none) : Grp W' base b n D G :=
  { h with map := h.map.kept hg (by simp), own := fun k v hv => (h.own k v hv).kept hg (by cases v.ownBlock <;> simp) }
/-- 'm[k]' at the operation. -/
theorem wpList_lookup_held {P : Program} (w : World) {ops : Array Oper} {rest : List Oper} {o : Oper} {a : Act} {Q : Exit → Act → World → Prop}
    (hg : o.guard = none) (m x : Operand) (t : TypeId) (hop : o.op = Op.lookup t m x false) (k e : TypeId) (K : Keyed P k) (ht : P.underlying t = some (.map k e)) (z : Value) (hz : (zeroValue e).run P w = .ok z w) (b n : Nat) (D : DataW Value)
    (hm : a.eval m = .map (some b)) (hown : w.ownsMap P k Rh b n D) (key : Value) (kl : Lit) (hx : a.eval x = key) (hkey : keyOf P k key = some kl)
    (hK : ∀ v, D.atKey kl (.held z) = .held v → wpList P ops Q rest (a.put o.dst v) w) : wpList P ops Q (o :: rest) a w := by
  refine wpList_plain hg fun K' hK' => ?_
  obtain ⟨v, ps, hrun, hv⟩ := hown.lookup (zd := .held z) (zp := []) K ht hz rfl hkey
  unfold Rh at hv
  injection hv with hv
  injection hv with hv _
  unfold Oper.wp
  simp [execOp, hop, hm, hx, hrun, Result.andThen]
  exact hK' _ _ (hK v hv.symm)
/-- 'm[k] = v' at the operation, by its run. -/
theorem wpList_update_run {P : Program} (w w2 : World) {ops : Array Oper} {rest : List Oper} {o : Oper} {a : Act} {Q : Exit → Act → World → Prop}
    (hg : o.guard = none) (m x v : Operand) (t : TypeId) (hop : o.op = Op.mapUpdate t m x v) (M key val : Value)
    (hm : a.eval m = M) (hx : a.eval x = key) (hv : a.eval v = val) (hrun : (Instr.mapUpdate t M key val).run P w = .ok () w2)
    (hK : wpList P ops Q rest (a.put o.dst undef) w2) : wpList P ops Q (o :: rest) a w := by
  refine wpList_plain hg fun K' hK' => ?_
  unfold Oper.wp
  simp [execOp, hop, hm, hx, hv, hrun, Result.andThen]
  exact hK' _ _ hK
/-- A node appended at a key. -/
theorem Grp.put {W w1 : World} {base b n : Nat} {D : DataW Value} {G : List UInt8 → List Nd} (h : Grp W base b n D G) (hn : n < maxLen) (k : List UInt8) {v v' : Value} (hv : D.atKey (.string k) (.held nilS) = .held v) {t e : TypeId} (ht : Tryz.prog.underlying t = some (.map 9 e)) {key : Value} (hkey : keyOf Tryz.prog 9 key = some (.string k)) (l : List Nd) (hl : l ≠ [])
    (hg : W.grownBy w1 v.ownBlock) (ho : w1.ownsRow base 40 4 v' l.length (nodesC l)) (hloc : v'.ownBlock = v.ownBlock ∨ ∃ g, v'.ownBlock = some g ∧ W.heap.size ≤ g) :
    ∃ w2, (Instr.mapUpdate t (.map (some b)) key v').run Tryz.prog w1 = .ok () w2 ∧ Grp w2 base b (n + 1) (D.put (.string k) (.held v')) (fun q => if q = k then l else G q) ∧ w1.grownBy w2 (some b) := by
  have hov := h.own k v hv
  have hvb : v.ownBlock ≠ some b := fun e1 => by
    have := (hov.lt b e1).1
    have := h.lt
    omega
  have hm1 := h.map.kept hg (fun e1 => hvb e1.symm)
  obtain ⟨w2, hrun, hm2, hg2⟩ := hm1.update lawS ht hn hkey (R := Rh) (val := v') (d := .held v') (ps := []) rfl
  have hv'b : ∀ u : Value, ∀ j xs, w1.ownsRow base 40 4 u j xs → u.ownBlock = none ∨ u.ownBlock ≠ some b := fun u j xs hu => by
    cases e1 : u.ownBlock with
    | none => exact .inl rfl
    | some g =>
      refine .inr (fun e2 => ?_)
      have := (hu.lt g e1).1
      have := h.lt
      injection e2 with e2
      omega
  -- an old element at another key is as it was
  have old : ∀ q u, q ≠ k → D.atKey (.string q) (.held nilS) = .held u → w1.ownsRow base 40 4 u (G q).length (nodesC (G q)) := fun q u hq hu => (h.own q u hu).kept hg (h.apart q k u v hq hu hv)
  have away : ∀ q u, q ≠ k → D.atKey (.string q) (.held nilS) = .held u → u.ownBlock = none ∨ u.ownBlock ≠ v'.ownBlock := fun q u hq hu => by
    rcases hloc with h1 | ⟨g, h1, h2⟩
    · rw [h1]; exact h.apart q k u v hq hu hv
    · cases e1 : u.ownBlock with
      | none => exact .inl rfl
      | some gu =>
        refine .inr (fun e2 => ?_)
        have := ((h.own q u hu).lt gu e1).2
        rw [h1] at e2
        injection e2 with e2
        omega
  have same : (D.put (.string k) (.held v')).atKey (.string k) (.held nilS) = .held v' := atKey_put_same h.tidy.isMap (keyLit k) _ _
  have other : ∀ q, q ≠ k → (D.put (.string k) (.held v')).atKey (.string q) (.held nilS) = D.atKey (.string q) (.held nilS) := fun q hq => atKey_put_other (str_ne hq) _ _
  refine ⟨w2, hrun, { map := hm2, tidy := h.tidy.put (keyLit k) _, own := fun q u hu => ?_, key := fun q => ?_, apart := fun q q' u u' hne hu hu' => ?_, lt := h.lt }, hg2⟩
  · by_cases hq : q = k
    · subst hq
      rw [same] at hu
      injection hu with hu
      subst hu
      rw [if_pos rfl]
      exact ho.kept hg2 (hv'b _ _ _ ho)
    · rw [other q hq] at hu
      rw [if_neg hq]
      exact (old q u hq hu).kept hg2 (hv'b _ _ _ (old q u hq hu))
  · by_cases hq : q = k
    · subst hq
      rw [has_put_same h.tidy.isMap (keyLit q), if_pos rfl]
      simp [hl]
    · rw [has_put_other (str_ne hq), if_neg hq]
      exact h.key q
  · by_cases hq : q = k
    · subst hq
      rw [same] at hu
      injection hu with hu
      subst hu
      rw [other q' (fun e => hne e.symm)] at hu'
      rcases away q' u' (fun e => hne e.symm) hu' with h1 | h1
      · cases e1 : v'.ownBlock with
        | none => exact .inl rfl
        | some g => exact .inr (by rw [h1]; simp)
      · exact .inr (fun e => h1 e.symm)
    · rw [other q hq] at hu
      by_cases hq' : q' = k
      · subst hq'
        rw [same] at hu'
        injection hu' with hu'
        subst hu'
        exact away q u hq hu
      · rw [other q' hq'] at hu'
        exact h.apart q q' u u' hne hu hu'
end RC
end Go.Proofs.YtechekdiadpmoaaGreatDoor
