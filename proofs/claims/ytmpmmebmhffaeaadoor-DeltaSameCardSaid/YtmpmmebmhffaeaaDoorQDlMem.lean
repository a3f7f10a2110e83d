/- Layer 14: how lists of blocks and of steps lie in memory. -/
import Derived.Test.YtmpmmebmhffaeaaDoorQOwn
import Derived.Test.YtmpmmebmhffaeaaDoorQFoot
import Derived.Test.YtmpmmebmhffaeaaDoorQDlPlain
import Derived.Lib.Strings
import Derived.WalkKit
import Derived.WalkMore
import Derived.IntWalk
import Derived.Below
import Derived.OwnWalk
import Derived.Lib.Hide
set_option linter.all false
set_option maxRecDepth 100000
set_option maxHeartbeats 25600000
namespace Go.Proofs.YtmpmmebmhffaeaaDoor
open Go.RowKit Go.Lib
namespace DM
open OM DL

def txt (l : List UInt8) : Value := .string ⟨l.toArray⟩
theorem txt_data (s : ByteArray) : txt s.data.toList = .string s := rfl
theorem txt_inj {a b : List UInt8} (h : txt a = txt b) : a = b := by
  unfold txt at h
  injection h with h
  injection h with h
  simpa using h
section
variable {α : Type} (p q r : α → Value)
/-- A slice of three cells an element lies there. -/
def Lay3 (W : World) (ao : Option Addr) (L : List α) : Prop := 0 < L.length → ∃ g o, ao = some ⟨g, o, none⟩ ∧ g < W.heap.size ∧ ∀ (i : Nat) (x : α), L[i]? = some x → W.cell? ⟨g, o + i * 3, none⟩ = some (p x) ∧ W.cell? ⟨g, o + i * 3 + 1, none⟩ = some (q x) ∧ W.cell? ⟨g, o + i * 3 + 2, none⟩ = some (r x)
def c3 (L : List α) : List Value := L.flatMap fun x => [p x, q x, r x]
variable {p q r}
theorem Lay3.below {W W' : World} {ao : Option Addr} {L : List α} (h : Lay3 p q r W ao L) (hb : Below W.heap.size W W') : Lay3 p q r W' ao L := fun h0 => by
  obtain ⟨g, o, e, hlt, hc⟩ := h h0
  exact ⟨g, o, e, Nat.lt_of_lt_of_le hlt hb.size, fun i x hi => ⟨(hb.cell (p := ⟨g, o + i * 3, none⟩) hlt).trans (hc i x hi).1, (hb.cell (p := ⟨g, o + i * 3 + 1, none⟩) hlt).trans (hc i x hi).2.1, (hb.cell (p := ⟨g, o + i * 3 + 2, none⟩) hlt).trans (hc i x hi).2.2⟩⟩
theorem Lay3.nil (W : World) (ao : Option Addr) : Lay3 p q r W ao [] := fun h => absurd h (by simp)
theorem c3_len (L : List α) : (c3 p q r L).length = L.length * 3 := by
  induction L with
  | nil => rfl
  | cons x L ih =>
    show ([p x, q x, r x] ++ c3 p q r L).length = (L.length + 1) * 3
    rw [List.length_append, ih]
    show 3 + _ = _
    omega
theorem c3_snoc (L : List α) (x : α) : c3 p q r (L ++ [x]) = c3 p q r L ++ [p x, q x, r x] := by
  unfold c3
  rw [List.flatMap_append, List.flatMap_singleton]
theorem c3_app (L M : List α) : c3 p q r (L ++ M) = c3 p q r L ++ c3 p q r M := by
  unfold c3
  rw [List.flatMap_append]
theorem c3_at : ∀ (L : List α) (i : Nat) (x : α), L[i]? = some x → (c3 p q r L)[i * 3]? = some (p x) ∧ (c3 p q r L)[i * 3 + 1]? = some (q x) ∧ (c3 p q r L)[i * 3 + 2]? = some (r x)
  | [], i, x, h => by simp at h
  | y :: L, 0, x, h => by
    simp at h
    subst h
    exact ⟨rfl, rfl, rfl⟩
  | y :: L, i + 1, x, h => by
    rw [List.getElem?_cons_succ] at h
    have ih := c3_at L i x h
    have e : ∀ j, (c3 p q r (y :: L))[(i + 1) * 3 + j]? = (c3 p q r L)[i * 3 + j]? := fun j => by
      show ([p y, q y, r y] ++ c3 p q r L)[_]? = _
      rw [List.getElem?_append_right (by show 3 ≤ _; omega)]
      congr 1
      show _ - 3 = _
      omega
    exact ⟨(e 0).trans ih.1, (e 1).trans ih.2.1, (e 2).trans ih.2.2⟩
theorem lay3_own {w : World} {B : Nat} {e : TypeId} {v : Value} {L : List α} (h : w.ownsRow B e 3 v L.length (c3 p q r L)) : ∃ ao c, v = .slice ao L.length c ∧ Lay3 p q r w ao L := by
  obtain ⟨ao, c, rfl, hx⟩ := owns_view h
  refine ⟨ao, c, rfl, fun h0 => ?_⟩
  obtain ⟨g, rfl, hg, _, hc⟩ := hx h0
  refine ⟨g, 0, rfl, hg, fun i x hi => ?_⟩
  have hkl := (List.getElem?_eq_some_iff.1 hi).1
  obtain ⟨a, b, c⟩ := c3_at (p := p) (q := q) (r := r) L i x hi
  rw [Nat.zero_add]
  exact ⟨(hc _ (by omega)).trans a, (hc _ (by omega)).trans b, (hc _ (by omega)).trans c⟩
end
def bW (b : Bk) : Value := .int .u32 (b.1 : Nat)
def bS (b : Bk) : Value := txt b.2.1
def bN (b : Bk) : Value := .int .i64 b.2.2
def oF (x : Stp) : Value := .int .i64 x.1
def oC (x : Stp) : Value := .int .i64 x.2.1
def oT (x : Stp) : Value := txt x.2.2
abbrev LayB (W : World) (ao : Option Addr) (bs : List Bk) : Prop := Lay3 bW bS bN W ao bs
abbrev LayO (W : World) (ao : Option Addr) (ops : List Stp) : Prop := Lay3 oF oC oT W ao ops
abbrev blkC (bs : List Bk) : List Value := c3 bW bS bN bs
abbrev opC (ops : List Stp) : List Value := c3 oF oC oT ops
def bkV (b : Bk) : Value := .agg #[.int .u32 (b.1 : Nat), .string ⟨b.2.1.toArray⟩, .int .i64 b.2.2]
def opV (x : Stp) : Value := .agg #[.int .i64 x.1, .int .i64 x.2.1, .string ⟨x.2.2.toArray⟩]
theorem bkV_inj {a b : Bk} (h : bkV a = bkV b) : a = b := by
  obtain ⟨a1, a2, a3⟩ := a
  obtain ⟨b1, b2, b3⟩ := b
  unfold bkV at h
  simp only at h
  injection h with h
  injection h with h
  injection h with h0 h
  injection h with h1 h
  injection h with h2 h
  injection h0 with _ h0
  injection h1 with h1
  injection h2 with _ h2
  have e1 : a2 = b2 := by
    injection h1 with h1
    simpa using h1
  have e0 : a1 = b1 := Int.ofNat.inj h0
  rw [e0, e1, h2]
theorem size_data (s : ByteArray) : s.size = s.data.toList.length := Lib.size_eq s
theorem take_of3 (s : ByteArray) (f u : Nat) : (s.extract f u).data.toList = (s.data.toList.drop f).take (u - f) := Lib.extract_data s f u
theorem cell_row {W : World} {B i : Nat} {cs : Array Value} {t : TypeId} {fz : Nat × Nat} (h : W.heap[B]? = some (.cells cs t fz)) : W.cell? ⟨B, i, none⟩ = cs[i]? := cell_of_row W B i cs t fz h
end DM
end Go.Proofs.YtmpmmebmhffaeaaDoor
