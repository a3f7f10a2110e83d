/- A map whose elements stand for themselves: it says what a function says. (General: no program's text.) -/
import Derived.Test.YtmpmmebmhffaeaaDoorQOwn
import Derived.Test.YtmpmmebmhffaeaaDoorQFoot
import Derived.Maps.OwnOps
import Derived.Maps.OwnSet
import Derived.Maps.Views
import Derived.DeepKeys4
set_option linter.all false
set_option maxRecDepth 100000
set_option maxHeartbeats 25600000
namespace Go.Proofs.YtmpmmebmhffaeaaDoor
open Go.RowKit Go.Lib Go.Maps Go.WideShapes
namespace DM
variable {P : Program} {k : TypeId}

/-- An element stands for itself. -/
def Rh (v : Value) : Option (DataW Value × List MemPlace) := some (.held v, [])
/-- The map b says what f says. -/
def MapF (P : Program) (k : TypeId) (W : World) (b n : Nat) (f : Value → Option Value) : Prop :=
  ∃ D, W.ownsMap P k Rh b n D ∧ Tidy D ∧ ∀ x kl, keyOf P k x = some kl → (∀ z, D.atKey kl (.held z) = .held ((f x).getD z)) ∧ has D kl = (f x).isSome
theorem MapF.made (w : World) : MapF P k (w.alloc (.map #[] 0)) w.heap.size 0 (fun _ => none) :=
  ⟨.map [], World.ownsMap_made _ _ _ _, tidy_empty, fun x kl _ => ⟨fun z => rfl, by simp [Maps.has]⟩⟩
theorem MapF.lt {W : World} {b n : Nat} {f : Value → Option Value} (h : MapF P k W b n f) : b < W.heap.size := by
  obtain ⟨D, h1, _⟩ := h
  exact h1.lt
theorem MapF.row {W W' : World} {b n : Nat} {f : Value → Option Value} (h : MapF P k W b n f) (hr : W'.heap[b]? = W.heap[b]?) : MapF P k W' b n f := by
  obtain ⟨D, ⟨es, clock, hm, Ft, hs, hD⟩, h2, h3⟩ := h
  exact ⟨D, ⟨es, clock, hr.trans hm, Ft, hs, hD⟩, h2, h3⟩
theorem MapF.kind {W : World} {b n : Nat} {f : Value → Option Value} (h : MapF P k W b n f) : ∃ es c, W.heap[b]? = some (.map es c) := by
  obtain ⟨D, ⟨es, clock, hm, _⟩, _⟩ := h
  exact ⟨es, clock, hm⟩
theorem MapF.below {W W' : World} {b n : Nat} {f : Value → Option Value} (h : MapF P k W b n f) (hb : Below W.heap.size W W') : MapF P k W' b n f := h.row (hb.block b h.lt)
theorem MapF.out {S : Nat → Prop} {W W' : World} {b n : Nat} {f : Value → Option Value} (h : MapF P k W b n f) (hb : FP.Out S W W') (hn : ¬ S b) : MapF P k W' b n f := h.row (hb.block b h.lt hn)
theorem MapF.mono {W : World} {b n m : Nat} {f : Value → Option Value} (h : MapF P k W b n f) (hm : n ≤ m) : MapF P k W b m f := by
  obtain ⟨D, h1, h2, h3⟩ := h
  exact ⟨D, h1.mono hm, h2, h3⟩
theorem MapF.alloc {W : World} {b n : Nat} {f : Value → Option Value} (h : MapF P k W b n f) (o : Obj) : MapF P k (W.alloc o) b n f := h.below ((Below.refl _ _).alloc (Nat.le_refl _) o)
theorem MapF.set {W : World} {b n : Nat} {f : Value → Option Value} (h : MapF P k W b n f) {a : Addr} (ha : b ≠ a.block) (u : Value) : MapF P k (W.setCell a u) b n f := h.row (Below.heap_setCell _ _ _ _ ha)
/-- 'm[k]'. -/
theorem MapF.look {W : World} {b n : Nat} {f : Value → Option Value} (h : MapF P k W b n f) (K : Keyed P k) {t e : TypeId} (ht : P.underlying t = some (.map k e)) {z : Value} (hz : (zeroValue e).run P W = .ok z W) {x : Value} {kl : Lit} (hx : keyOf P k x = some kl) :
    (Instr.lookup t (.map (some b)) x false).run P W = .ok ((f x).getD z) W := by
  obtain ⟨D, h1, _, h3⟩ := h
  obtain ⟨v, ps, hr, hv⟩ := h1.lookup (zd := .held z) (zp := []) K ht hz rfl hx
  unfold Rh at hv
  injection hv with hv
  injection hv with hv _
  rw [(h3 x kl hx).1 z] at hv
  injection hv with hv
  rw [← hv]
  exact hr
/-- 'v, ok := m[k]'. -/
theorem MapF.look_ok {W : World} {b n : Nat} {f : Value → Option Value} (h : MapF P k W b n f) (K : Keyed P k) {t e : TypeId} (ht : P.underlying t = some (.map k e)) {z : Value} (hz : (zeroValue e).run P W = .ok z W) {x : Value} {kl : Lit} (hx : keyOf P k x = some kl) :
    (Instr.lookup t (.map (some b)) x true).run P W = .ok (.tuple #[(f x).getD z, .bool (f x).isSome]) W := by
  obtain ⟨D, h1, _, h3⟩ := h
  obtain ⟨v, ps, hr, hv⟩ := h1.look_ok (zd := .held z) (zp := []) K ht hz rfl hx
  unfold Rh at hv
  injection hv with hv
  injection hv with hv _
  rw [(h3 x kl hx).1 z] at hv
  injection hv with hv
  rw [hr, hv, (h3 x kl hx).2]
/-- 'm[k] = v'. -/
theorem MapF.put {W : World} {b n : Nat} {f : Value → Option Value} (h : MapF P k W b n f) (K : Keyed P k) {t e : TypeId} (ht : P.underlying t = some (.map k e)) (hn : n < maxLen) {x : Value} {kl : Lit} (hx : keyOf P k x = some kl) (v : Value) {f' : Value → Option Value} (h1 : f' x = some v) (h2 : ∀ q, q ≠ x → f' q = f q) :
    ∃ W', (Instr.mapUpdate t (.map (some b)) x v).run P W = .ok () W' ∧ MapF P k W' b (n + 1) f' ∧ W.grownBy W' (some b) := by
  obtain ⟨D, g1, g2, g3⟩ := h
  obtain ⟨W', hr, hm, hg⟩ := g1.update (d := .held v) (ps := []) K ht hn hx rfl
  refine ⟨W', hr, ⟨_, hm, hm.tidy K, fun q ql hq => ?_⟩, hg⟩
  by_cases e : q = x
  · subst e
    rw [hx] at hq
    injection hq with hq
    subst hq
    rw [h1]
    exact ⟨fun z => atKey_put_same g2.isMap (K.key hx) _ _, has_put_same g2.isMap (K.key hx) _⟩
  · have hne : ql ≠ kl := fun e2 => e (K.inj (by rw [hq, e2]) hx)
    rw [h2 q e]
    exact ⟨fun z => by rw [atKey_put_other hne]; exact (g3 q ql hq).1 z, by rw [has_put_other hne]; exact (g3 q ql hq).2⟩
/-- 'm[k]' at the operation. -/
theorem wp_put {w w2 : World} {ops : Array Oper} {rest : List Oper} {o : Oper} {a : Act} {Q : Exit → Act → World → Prop}
    (hg : o.guard = none) (m x v : Operand) (t : TypeId) (hop : o.op = Op.mapUpdate t m x v) (M key val : Value)
    (hm : a.eval m = M) (hx : a.eval x = key) (hv : a.eval v = val) (hrun : (Instr.mapUpdate t M key val).run P w = .ok () w2)
    (hK : wpList P ops Q rest (a.put o.dst undef) w2) : wpList P ops Q (o :: rest) a w := by
  refine wpList_plain hg fun K' hK' => ?_
  unfold Oper.wp
  simp [execOp, hop, hm, hx, hv, hrun, Result.andThen]
  exact hK' _ _ hK
end DM
end Go.Proofs.YtmpmmebmhffaeaaDoor
