/- Layer 13: maps from texts to numbers that say what a list of pairs says. -/
import Derived.Test.YtechekdiadpmoaaDoorQPlMem
import Derived.Maps.OwnOps
import Derived.Maps.OwnSet
import Derived.Maps.Views
set_option linter.all false
set_option maxRecDepth 100000
set_option maxHeartbeats 25600000
namespace Go.Proofs.YtechekdiadpmoaaDoor
open Go.RowKit Go.Lib Go.Maps
namespace PM
open OM TM PL

theorem lawS : Keyed Tryd.prog 9 := string_keyed Tryd.underlying9
theorem keyS (p : List UInt8) (h : p.length ≤ maxLen) : keyOf Tryd.prog 9 (txt p) = some (.string p) := by
  unfold keyOf txt
  rw [Tryd.underlying9]
  simp only
  unfold mapKey
  rw [Tryd.underlying9]
  simp [Lib.size_eq, h]
theorem keyLit (k : List UInt8) : WideAt.IsKeyLit (.string k) := trivial
theorem str_ne {k k' : List UInt8} (h : k ≠ k') : (Lit.string k) ≠ .string k' := fun e => h (by injection e)
/-- The map b says what the list says. -/
structure MapP (W : World) (b n : Nat) (D : DataW Value) (L : List Pi) : Prop where
  map : W.ownsMap Tryd.prog 9 (plainElem Tryd.prog 3) b n D
  tidy : Tidy D
  at_ : ∀ p, D.atKey (.string p) (.lit (.int .i64 0)) = .lit (.int .i64 ((findP L p).getD 0))
  has_ : ∀ p, has D (.string p) = (findP L p).isSome
theorem MapP.made (w : World) : MapP (w.alloc (.map #[] 0)) w.heap.size 0 (.map []) [] where
  map := World.ownsMap_made _ _ _ _
  tidy := tidy_empty
  at_ := fun p => rfl
  has_ := fun p => by simp [Maps.has, findP]
theorem MapP.lt {W : World} {b n : Nat} {D : DataW Value} {L : List Pi} (h : MapP W b n D L) : b < W.heap.size := h.map.lt
theorem MapP.below {W W' : World} {b n : Nat} {D : DataW Value} {L : List Pi} (h : MapP W b n D L) (hb : Below W.heap.size W W') : MapP W' b n D L := by
  have hlt := h.lt
  refine { h with map := ?_ }
  obtain ⟨es, clock, hm, Ft, hs, hD⟩ := h.map
  exact ⟨es, clock, (hb.block b hlt).trans hm, Ft, hs, hD⟩
theorem MapP.mono {W : World} {b n m : Nat} {D : DataW Value} {L : List Pi} (h : MapP W b n D L) (hm : n ≤ m) : MapP W b m D L := { h with map := h.map.mono hm }
/-- A pair more, where the text is new. -/
theorem MapP.put {W W' : World} {b n : Nat} {D : DataW Value} {L : List Pi} (h : MapP W b n D L) {p : List UInt8} {v : Int} (hp : findP L p = none)
    (hm : W'.ownsMap Tryd.prog 9 (plainElem Tryd.prog 3) b (n + 1) (D.put (.string p) (.lit (.int .i64 v)))) : MapP W' b (n + 1) (D.put (.string p) (.lit (.int .i64 v))) (L ++ [(p, v)]) where
  map := hm
  tidy := hm.tidy lawS
  at_ := fun q => by
    rw [find_snoc]
    by_cases e : q = p
    · subst e
      rw [hp, atKey_put_same h.tidy.isMap (keyLit _)]
      simp
    · rw [atKey_put_other (str_ne e), h.at_ q]
      cases findP L q with
      | some d => rfl
      | none => simp only [if_neg (fun h : p = q => e h.symm)]
  has_ := fun q => by
    rw [find_snoc]
    by_cases e : q = p
    · subst e
      rw [hp, has_put_same h.tidy.isMap (keyLit _)]
      simp
    · rw [has_put_other (str_ne e), h.has_ q]
      cases findP L q with
      | some d => rfl
      | none => simp only [if_neg (fun h : p = q => e h.symm)]
theorem zeroI (W : World) : (zeroValue 3).run Tryd.prog W = .ok (.int .i64 0) W := Tryd.zeroValue3 W
/-- 'm[k]' at the operation. -/
theorem look_map {w : World} {ops : Array Oper} {rest : List Oper} {o : Oper} {a : Act} {Q : Exit → Act → World → Prop} (hg : o.guard = none) (m x : Operand) (t : TypeId) (hop : o.op = Op.lookup t m x false) (ht : Tryd.prog.underlying t = some (.map 9 3))
    {b n : Nat} {D : DataW Value} {L : List Pi} (hm : a.eval m = .map (some b)) (h : MapP w b n D L) (p : List UInt8) (hp : p.length ≤ maxLen) (hx : a.eval x = txt p)
    (hK : wpList Tryd.prog ops Q rest (a.put o.dst (.int .i64 ((findP L p).getD 0))) w) : wpList Tryd.prog ops Q (o :: rest) a w := by
  refine wpList_lookup_own_int w hg m x t hop 9 3 .i64 lawS ht Tryd.underlying3 (zeroI w) b n D hm h.map (txt p) (.string p) hx (keyS p hp) fun c hc _ => ?_
  rw [h.at_ p] at hc
  injection hc with hc
  injection hc with _ hc
  rw [← hc]
  exact hK
/-- 'v, ok := m[k]' at the operation. -/
theorem look_ok {w : World} {ops : Array Oper} {rest : List Oper} {o : Oper} {a : Act} {Q : Exit → Act → World → Prop} (hg : o.guard = none) (m x : Operand) (t : TypeId) (hop : o.op = Op.lookup t m x true) (ht : Tryd.prog.underlying t = some (.map 9 3))
    {b n : Nat} {D : DataW Value} {L : List Pi} (hm : a.eval m = .map (some b)) (h : MapP w b n D L) (p : List UInt8) (hp : p.length ≤ maxLen) (hx : a.eval x = txt p)
    (hK : wpList Tryd.prog ops Q rest (a.put o.dst (.tuple #[.int .i64 ((findP L p).getD 0), .bool (findP L p).isSome])) w) : wpList Tryd.prog ops Q (o :: rest) a w := by
  refine wpList_lookup_own_ok_int w hg m x t hop 9 3 .i64 lawS ht Tryd.underlying3 (zeroI w) b n D hm h.map (txt p) (.string p) hx (keyS p hp) fun c hc _ => ?_
  rw [h.at_ p] at hc
  injection hc with hc
  injection hc with _ hc
  rw [← hc, h.has_ p]
  exact hK
/-- 'm[k] = v' at the operation, where k is new. -/
theorem put_map {w : World} {ops : Array Oper} {rest : List Oper} {o : Oper} {a : Act} {Q : Exit → Act → World → Prop} (hg : o.guard = none) (m x v : Operand) (t : TypeId) (hop : o.op = Op.mapUpdate t m x v) (ht : Tryd.prog.underlying t = some (.map 9 3))
    {b n : Nat} {D : DataW Value} {L : List Pi} (hm : a.eval m = .map (some b)) (h : MapP w b n D L) (hn : n < maxLen) (p : List UInt8) (hp : p.length ≤ maxLen) (hx : a.eval x = txt p) (k : Int) (hv : a.eval v = .int .i64 k) (hk : (Lit.int .i64 k).wf = true) (hf : findP L p = none)
    (hK : ∀ w' D', MapP w' b (n + 1) D' (L ++ [(p, k)]) → w.grownBy w' (some b) → wpList Tryd.prog ops Q rest (a.put o.dst undef) w') : wpList Tryd.prog ops Q (o :: rest) a w := by
  refine wpList_mapUpdate_own w hg m x v t hop 9 3 lawS ht (plainElem Tryd.prog 3) b n D hm h.map hn (txt p) (.int .i64 k) (.string p) hx hv (keyS p hp) (.lit (.int .i64 k)) [] (plainElem_int Tryd.underlying3 hk) fun w' h1 h2 => ?_
  exact hK w' _ (h.put hf h1) h2
set_option maxRecDepth 100000 in
theorem MapP.look_run {W : World} {b n : Nat} {D : DataW Value} {L : List Pi} (h : MapP W b n D L) (t : TypeId) (ht : Tryd.prog.underlying t = some (.map 9 3)) (p : List UInt8) (hp : p.length ≤ maxLen) :
    (Instr.lookup t (.map (some b)) (.string ⟨p.toArray⟩) false).run Tryd.prog W = .ok (.int .i64 ((findP L p).getD 0)) W := by
  obtain ⟨c, hr, hc, _⟩ := h.map.lookup_int lawS ht Tryd.underlying3 (zeroI W) (keyS p hp)
  rw [h.at_ p] at hc
  injection hc with hc
  injection hc with _ hc
  rw [hc]
  exact hr
end PM
end Go.Proofs.YtechekdiadpmoaaDoor
