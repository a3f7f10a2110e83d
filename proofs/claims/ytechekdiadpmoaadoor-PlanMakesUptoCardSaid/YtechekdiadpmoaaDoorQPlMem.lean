/- Layer 13: how lists of items, choices and programs lie; lists of pairs out of the arguments. -/
import Derived.Test.YtechekdiadpmoaaDoorQPlPlain
import Derived.Test.YtechekdiadpmoaaDoorQBase
import Derived.Lib.Hide
import Derived.Below
import Derived.OwnWalk
set_option linter.all false
set_option maxRecDepth 100000
set_option maxHeartbeats 25600000
namespace Go.Proofs.YtechekdiadpmoaaDoor
open Go.RowKit Go.Lib
namespace PM
open OM TM PL

/-- A slice of pairs of a text and a number lies there (from the block's offset o on). -/
def LayP (W : World) (ao : Option Addr) (L : List Pi) : Prop := 0 < L.length → ∃ g o, ao = some ⟨g, o, none⟩ ∧ g < W.heap.size ∧ ∀ (i : Nat) (x : Pi), L[i]? = some x → W.cell? ⟨g, o + i * 2, none⟩ = some (txt x.1) ∧ W.cell? ⟨g, o + i * 2 + 1, none⟩ = some (.int .i64 x.2)
theorem LayP.below {W W' : World} {ao : Option Addr} {L : List Pi} (h : LayP W ao L) (hb : Below W.heap.size W W') : LayP W' ao L := fun h0 => by
  obtain ⟨g, o, e, hlt, hc⟩ := h h0
  exact ⟨g, o, e, Nat.lt_of_lt_of_le hlt hb.size, fun i x hi => ⟨(hb.cell (p := ⟨g, o + i * 2, none⟩) hlt).trans (hc i x hi).1, (hb.cell (p := ⟨g, o + i * 2 + 1, none⟩) hlt).trans (hc i x hi).2⟩⟩
theorem LayP.nil (W : World) (ao : Option Addr) : LayP W ao [] := fun h => absurd h (by simp)
def plC (L : List Pi) : List Value := L.flatMap fun i => [txt i.1, .int .i64 i.2]
theorem plC_len (l : List Pi) : (plC l).length = l.length * 2 := by
  induction l with
  | nil => rfl
  | cons x l ih =>
    show ([txt x.1, .int .i64 x.2] ++ plC l).length = (l.length + 1) * 2
    rw [List.length_append, ih]
    show 2 + _ = _
    omega
theorem plC_snoc (l : List Pi) (x : Pi) : plC (l ++ [x]) = plC l ++ [txt x.1, .int .i64 x.2] := by
  unfold plC
  rw [List.flatMap_append, List.flatMap_singleton]
theorem plC_at : ∀ (L : List Pi) (i : Nat) (x : Pi), L[i]? = some x → (plC L)[i * 2]? = some (txt x.1) ∧ (plC L)[i * 2 + 1]? = some (.int .i64 x.2)
  | [], i, x, h => by simp at h
  | y :: L, 0, x, h => by
    simp at h
    subst h
    exact ⟨rfl, rfl⟩
  | y :: L, i + 1, x, h => by
    rw [List.getElem?_cons_succ] at h
    have ih := plC_at L i x h
    have e : ∀ j, (plC (y :: L))[(i + 1) * 2 + j]? = (plC L)[i * 2 + j]? := fun j => by
      show ([txt y.1, .int .i64 y.2] ++ plC L)[_]? = _
      rw [List.getElem?_append_right (by show 2 ≤ _; omega)]
      congr 1
      show _ - 2 = _
      omega
    exact ⟨(e 0).trans ih.1, (e 1).trans ih.2⟩
theorem lay_pl {w : World} {B : Nat} {e : TypeId} {v : Value} {L : List Pi} (h : w.ownsRow B e 2 v L.length (plC L)) : ∃ ao c, v = .slice ao L.length c ∧ LayP w ao L := by
  obtain ⟨ao, c, rfl, hx⟩ := owns_view h
  refine ⟨ao, c, rfl, fun h0 => ?_⟩
  obtain ⟨g, rfl, hg, _, hc⟩ := hx h0
  refine ⟨g, 0, rfl, hg, fun k n hk => ?_⟩
  have hkl := (List.getElem?_eq_some_iff.1 hk).1
  obtain ⟨a, b⟩ := plC_at L k n hk
  rw [Nat.zero_add]
  exact ⟨(hc _ (by omega)).trans a, (hc _ (by omega)).trans b⟩
/-- Programs: a name, a pattern. -/
abbrev Pm := List UInt8 × List UInt8
def LayM (W : World) (ao : Option Addr) (M : List Pm) : Prop := 0 < M.length → ∃ g o, ao = some ⟨g, o, none⟩ ∧ g < W.heap.size ∧ ∀ (i : Nat) (x : Pm), M[i]? = some x → W.cell? ⟨g, o + i * 2, none⟩ = some (txt x.1) ∧ W.cell? ⟨g, o + i * 2 + 1, none⟩ = some (txt x.2)
theorem LayM.below {W W' : World} {ao : Option Addr} {M : List Pm} (h : LayM W ao M) (hb : Below W.heap.size W W') : LayM W' ao M := fun h0 => by
  obtain ⟨g, o, e, hlt, hc⟩ := h h0
  exact ⟨g, o, e, Nat.lt_of_lt_of_le hlt hb.size, fun i x hi => ⟨(hb.cell (p := ⟨g, o + i * 2, none⟩) hlt).trans (hc i x hi).1, (hb.cell (p := ⟨g, o + i * 2 + 1, none⟩) hlt).trans (hc i x hi).2⟩⟩
theorem LayM.nil (W : World) (ao : Option Addr) : LayM W ao [] := fun h => absurd h (by simp)
/-- A list of pairs as it comes in, of bounded bulk. -/
structure ArgP (W : World) (ao : Option Addr) (c : Nat) (L : List Pi) : Prop where
  lay : LayP W ao L
  no : ao = none → c = 0
  cap : L.length ≤ c
  len : L.length ≤ 1048576
  small : ∀ x ∈ L, x.1.length ≤ 1048576
theorem ArgP.nil (W : World) : ArgP W none 0 [] := ⟨LayP.nil _ _, fun _ => rfl, Nat.le_refl _, by simp, fun x hx => by cases hx⟩
theorem ArgP.below {W W' : World} {ao : Option Addr} {c : Nat} {L : List Pi} (h : ArgP W ao c L) (hb : Below W.heap.size W W') : ArgP W' ao c L := ⟨h.lay.below hb, h.no, h.cap, h.len, h.small⟩
structure ArgM (W : World) (ao : Option Addr) (c : Nat) (M : List Pm) : Prop where
  lay : LayM W ao M
  no : ao = none → c = 0
  cap : M.length ≤ c
  len : M.length ≤ 1048576
  small : ∀ x ∈ M, x.1.length ≤ 1048576 ∧ x.2.length ≤ 1048576
theorem ArgM.nil (W : World) : ArgM W none 0 [] := ⟨LayM.nil _ _, fun _ => rfl, Nat.le_refl _, by simp, fun x hx => by cases hx⟩
theorem ArgM.below {W W' : World} {ao : Option Addr} {c : Nat} {M : List Pm} (h : ArgM W ao c M) (hb : Below W.heap.size W W') : ArgM W' ao c M := ⟨h.lay.below hb, h.no, h.cap, h.len, h.small⟩
end PM
end Go.Proofs.YtechekdiadpmoaaDoor
