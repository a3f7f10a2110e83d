/- Layer 4: the contract of the document's Hex. -/
import Derived.Test.YtmpmmebmhffaeaaDoorQHashRef1
import Derived.Laws.IdiomStrings
import Derived.Laws.OwnMore
import Derived.RegionTactic
import Derived.ChangeAlike
import Derived.Deep.RegionWith
import Derived.Deep.RegionHeld3
import Derived.Deep.AppendLies
import Derived.Lib.BufferRead
import Derived.Laws.BytesArg
import Derived.Lib.QuietBelow
set_option linter.all false
set_option maxRecDepth 100000
set_option maxHeartbeats 25600000
namespace Go.Proofs.YtmpmmebmhffaeaaDoor
open Go.RowKit Go.Lib
namespace HR
open HP

def dig (n : Nat) : Nat := if n < 10 then 48 + n else 87 + n
/-- Two digits a byte. -/
def hexL : List UInt8 → List UInt8
  | [] => []
  | x :: r => UInt8.ofNat (dig (x.toNat / 16)) :: UInt8.ofNat (dig (x.toNat % 16)) :: hexL r
theorem hexL_len : ∀ l : List UInt8, (hexL l).length = 2 * l.length
  | [] => rfl
  | x :: r => by rw [hexL, List.length_cons, List.length_cons, List.length_cons, hexL_len r]; omega
theorem hexL_snoc (x : UInt8) : ∀ l : List UInt8, hexL (l ++ [x]) = hexL l ++ [UInt8.ofNat (dig (x.toNat / 16)), UInt8.ofNat (dig (x.toNat % 16))]
  | [] => rfl
  | y :: r => by rw [List.cons_append, hexL, hexL_snoc x r, hexL]; rfl
def cells (l : List UInt8) : List Value := l.map fun b => .int .u8 b.toNat
theorem cells_app (a b : List UInt8) : cells (a ++ b) = cells a ++ cells b := by simp [cells]
theorem cells_length (a : List UInt8) : (cells a).length = a.length := by simp [cells]
theorem info_parts {t : TypeId} {i : Option TypeInfo} {z : Option Value} {a b : Nat} (h : i.map (fun i => (i.zero, i.size, i.bytes)) = some (z, a, b)) : ∃ i0, i = some i0 ∧ i0.zero = z ∧ i0.size = a ∧ i0.bytes = b := by
  cases i with
  | none => simp at h
  | some i0 =>
    simp only [Option.map_some, Option.some.injEq, Prod.mk.injEq] at h
    exact ⟨i0, rfl, h.1, h.2.1, h.2.2⟩
theorem two_new (w : World) (v u : Value) (t : TypeId) : ∀ (j : Nat) x, [v, u][j]? = some x → (w.alloc (.cells #[v, u] t)).cell? ((⟨w.heap.size, 0, none⟩ : Addr).add j) = some x := by
  intro j x hj
  match j, hj with
  | 0, hj => simp at hj; subst hj; simp [Addr.add]
  | 1, hj => simp at hj; subst hj; simp [Addr.add]
  | j + 2, hj => simp at hj
theorem conv_own {w : World} {B g cap : Nat} {l : List UInt8} (h : w.ownsRow B 5 1 (.slice (some ⟨g, 0, none⟩) l.length cap) l.length (cells l)) :
    (convert 70 9 (.slice (some ⟨g, 0, none⟩) l.length cap)).run Tryd.prog w = .ok (.string ⟨l.toArray⟩) w :=
  run_convert_bytes_back (P := Tryd.prog) w 70 9 5 ⟨g, 0, none⟩ cap l Tryd.underlying70 Tryd.underlying5 Tryd.underlying9 (fun j hj => World.ownsRow.cells h rfl j _ (by simp [cells, List.getElem?_eq_getElem hj]))
theorem byte_of' {n : Nat} (h : n < 256) : (UInt8.ofNat n).toNat = n := by simp; omega
def digs : ByteArray := ⟨#[48, 49, 50, 51, 52, 53, 54, 55, 56, 57, 97, 98, 99, 100, 101, 102]⟩
theorem digs_size : digs.size = 16 := rfl
theorem digs_at : ∀ i, i < 16 → (digs[i]?).getD 0 = UInt8.ofNat (dig i) := by decide +kernel
theorem dig_lt {i : Nat} (h : i < 16) : dig i < 256 := by unfold dig; split <;> omega
@[go_sem high] theorem fold_digs : (⟨#[48, 49, 50, 51, 52, 53, 54, 55, 56, 57, 97, 98, 99, 100, 101, 102]⟩ : ByteArray) = digs := rfl
theorem run_index_digs {P : Program} (w : World) (t : TypeId) (k : IntKind) (i : Int) (h : P.underlying t = some .string) (h0 : 0 ≤ i) (h1 : i ≤ 15) :
    (Instr.index t (.string digs) (.int k i)).run P w = .ok (.int .u8 (dig i.toNat : Nat)) w := by
  have hi : 0 ≤ i ∧ i < (digs.size : Int) := by rw [digs_size]; omega
  have h2 : i.toNat < digs.size := by rw [digs_size]; omega
  rw [run_index_string w t digs k i h, dif_pos hi]
  have e := digs_at i.toNat (by omega)
  rw [ByteArray.getElem?_lt' _ _ h2, Option.getD_some] at e
  rw [e, byte_of' (dig_lt (by omega))]
@[go_sem high] theorem wrap_hi (b : UInt8) : IntKind.u8.wrap ((b.toNat : Int) / 16) = (b.toNat : Int) / 16 := by
  have := b.toNat_lt
  simp [IntKind.wrap, IntKind.bits, IntKind.signed]
  omega
@[go_sem high] theorem wrap_lo (b : UInt8) : IntKind.u8.wrap ((b.toNat : Int) % 16) = (b.toNat : Int) % 16 := by
  have := b.toNat_lt
  simp [IntKind.wrap, IntKind.bits, IntKind.signed]
  omega
@[go_sem high] theorem tmod_lo (b : UInt8) : ((b.toNat : Int)).tmod 16 = (b.toNat : Int) % 16 := Int.tmod_eq_emod_of_nonneg (by omega)
@[go_sem high] theorem run_index_hi {P : Program} (w : World) (t : TypeId) (k : IntKind) (b : UInt8) (h : P.underlying t = some .string) :
    (Instr.index t (.string digs) (.int k ((b.toNat : Int) / 16))).run P w = .ok (.int .u8 (dig (b.toNat / 16) : Nat)) w := by
  have := b.toNat_lt
  exact run_index_digs w t k _ h (by omega) (by omega)
@[go_sem high] theorem run_index_lo {P : Program} (w : World) (t : TypeId) (k : IntKind) (b : UInt8) (h : P.underlying t = some .string) :
    (Instr.index t (.string digs) (.int k ((b.toNat : Int) % 16))).run P w = .ok (.int .u8 (dig (b.toNat % 16) : Nat)) w :=
  run_index_digs w t k _ h (by omega) (by omega)
end HR
end Go.Proofs.YtmpmmebmhffaeaaDoor
