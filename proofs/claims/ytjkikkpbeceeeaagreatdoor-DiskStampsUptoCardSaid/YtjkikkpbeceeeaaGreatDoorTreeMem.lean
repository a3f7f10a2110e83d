/- Layer 6: how lists of nodes lie in memory. -/
import Derived.Test.YtjkikkpbeceeeaaGreatDoorOwn
import Derived.Test.YtjkikkpbeceeeaaGreatDoorTreePut
import Derived.Lib.Strings
namespace Go.Proofs.YtjkikkpbeceeeaaGreatDoor
open Go.RowKit Go.Lib
namespace TM
open OM TP

def txt (l : List UInt8) : Value := .string ⟨l.toArray⟩
def ndCells (n : Nd) : List Value := [txt n.path, .int .i64 n.kind, txt n.data, .int .i64 n.mode]
def ndVal (n : Nd) : Value := .agg #[txt n.path, .int .i64 n.kind, txt n.data, .int .i64 n.mode]
def nodesC (ts : List Nd) : List Value := ts.flatMap ndCells
/-- One node lies there. -/
structure NodeAt (W : World) (g o : Nat) (n : Nd) : Prop where
  p : W.cell? ⟨g, o, none⟩ = some (txt n.path)
  k : W.cell? ⟨g, o + 1, none⟩ = some (.int .i64 n.kind)
  d : W.cell? ⟨g, o + 2, none⟩ = some (txt n.data)
  m : W.cell? ⟨g, o + 3, none⟩ = some (.int .i64 n.mode)
theorem NodeAt.below {W W' : World} {g o : Nat} {n : Nd} (h : NodeAt W g o n) (hg : g < W.heap.size) (hb : Below W.heap.size W W') : NodeAt W' g o n :=
  ⟨(hb.cell (p := ⟨g, o, none⟩) hg).trans h.p, (hb.cell (p := ⟨g, o + 1, none⟩) hg).trans h.k, (hb.cell (p := ⟨g, o + 2, none⟩) hg).trans h.d, (hb.cell (p := ⟨g, o + 3, none⟩) hg).trans h.m⟩
/-- A slice of nodes lies there. -/
def LayN (W : World) (ao : Option Addr) (ts : List Nd) : Prop :=
  0 < ts.length → ∃ g o, ao = some ⟨g, o, none⟩ ∧ g < W.heap.size ∧ ∀ (k : Nat) (n : Nd), ts[k]? = some n → NodeAt W g (o + k * 4) n
theorem LayN.below {W W' : World} {ao : Option Addr} {ts : List Nd} (h : LayN W ao ts) (hb : Below W.heap.size W W') : LayN W' ao ts := fun h0 => by
  obtain ⟨g, o, e, hlt, hc⟩ := h h0
  exact ⟨g, o, e, Nat.lt_of_lt_of_le hlt hb.size, fun k n hk => (hc k n hk).below hlt hb⟩
theorem LayN.nil (W : World) (ao : Option Addr) : LayN W ao [] := fun h => absurd h (by simp)
theorem nodes_len (ts : List Nd) : (nodesC ts).length = ts.length * 4 := by
  induction ts with
  | nil => rfl
  | cons n ts ih =>
    show (ndCells n ++ nodesC ts).length = _
    rw [List.length_append, ih, List.length_cons]
    show 4 + _ = _
    omega
theorem nodes_at : ∀ (ts : List Nd) (k : Nat) (n : Nd), ts[k]? = some n → (nodesC ts)[k * 4]? = some (txt n.path) ∧ (nodesC ts)[k * 4 + 1]? = some (.int .i64 n.kind) ∧ (nodesC ts)[k * 4 + 2]? = some (txt n.data) ∧ (nodesC ts)[k * 4 + 3]? = some (.int .i64 n.mode)
  | [], k, n, h => by simp at h
  | x :: ts, 0, n, h => by
    simp at h
    subst h
    exact ⟨rfl, rfl, rfl, rfl⟩
  | x :: ts, k + 1, n, h => by
    rw [List.getElem?_cons_succ] at h
    have ih := nodes_at ts k n h
    have e : ∀ j, (nodesC (x :: ts))[(k + 1) * 4 + j]? = (nodesC ts)[k * 4 + j]? := fun j => by
      show (ndCells x ++ nodesC ts)[_]? = _
      rw [List.getElem?_append_right (by show 4 ≤ _; omega)]
      congr 1
      show _ - 4 = _
      omega
    exact ⟨(e 0).trans ih.1, (e 1).trans ih.2.1, (e 2).trans ih.2.2.1, (e 3).trans ih.2.2.2⟩
theorem lay_own {w : World} {B : Nat} {v : Value} {ts : List Nd} (h : w.ownsRow B 45 4 v ts.length (nodesC ts)) : ∃ ao c, v = .slice ao ts.length c ∧ LayN w ao ts := by
  obtain ⟨ao, c, rfl, hx⟩ := owns_view h
  refine ⟨ao, c, rfl, fun h0 => ?_⟩
  obtain ⟨g, rfl, hg, _, hc⟩ := hx h0
  refine ⟨g, 0, rfl, hg, fun k n hk => ?_⟩
  have hkl := (List.getElem?_eq_some_iff.1 hk).1
  obtain ⟨a, b, c, d⟩ := nodes_at ts k n hk
  rw [Nat.zero_add]
  exact ⟨(hc _ (by omega)).trans a, (hc _ (by omega)).trans b, (hc _ (by omega)).trans c, (hc _ (by omega)).trans d⟩
theorem nodes_snoc (ts : List Nd) (n : Nd) : nodesC (ts ++ [n]) = nodesC ts ++ ndCells n := by
  unfold nodesC
  rw [List.flatMap_append, List.flatMap_singleton]
theorem txt_data (s : ByteArray) : txt s.data.toList = .string s := by
  unfold txt
  congr 1
theorem txt_inj {a b : List UInt8} (h : txt a = txt b) : a = b := by
  unfold txt at h
  injection h with h
  injection h with h
  simpa using h
end TM
end Go.Proofs.YtjkikkpbeceeeaaGreatDoor
