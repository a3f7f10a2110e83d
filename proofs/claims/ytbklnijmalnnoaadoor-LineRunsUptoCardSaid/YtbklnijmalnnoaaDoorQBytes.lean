/- Bytes out of a text that may be written (general; no function of the program is read here). -/
import Derived.Test.YtbklnijmalnnoaaDoorQOwn
import Derived.Laws.BitsAllLaws
import Derived.Laws.BytesArg
import Derived.Laws.IdiomStrings
import Derived.Lib.Strings
set_option linter.all false
set_option maxRecDepth 100000
set_option maxHeartbeats 25600000
namespace Go.Proofs.YtbklnijmalnnoaaDoor
open Go.RowKit Go.Lib
namespace OM

theorem xor_u8 (a b : UInt8) : bits .xor .u8 ((a.toNat : Nat) : Int) ((b.toNat : Nat) : Int) = (((a ^^^ b).toNat : Nat) : Int) := by
  have h : ∀ c : UInt8, (BitVec.ofInt 8 ((c.toNat : Nat) : Int)).toNat = c.toNat := fun c => by
    rw [BitVec.ofInt_natCast, BitVec.toNat_ofNat]
    exact Nat.mod_eq_of_lt c.toNat_lt
  show IntKind.u8.wrap ((BitVec.ofInt 8 ((a.toNat : Nat) : Int) ^^^ BitVec.ofInt 8 ((b.toNat : Nat) : Int)).toNat : Int) = _
  rw [BitVec.toNat_xor, h, h, UInt8.toNat_xor]
  have hlt : a.toNat ^^^ b.toNat < 2 ^ 8 := Nat.xor_lt_two_pow a.toNat_lt b.toNat_lt
  simp [IntKind.wrap, IntKind.bits, IntKind.signed]
  omega
/-- Out of a text: bytes that may be written. -/
theorem text_free (w : World) (s : ByteArray) : ∃ g cap w', (convert 9 45 (.string s)).run Tryd.prog w = .ok (.slice (some ⟨g, 0, none⟩) s.size cap) w' ∧ w.heap.size ≤ g ∧ g < w'.heap.size ∧ s.size ≤ cap ∧
    (∀ j b, s.data.toList[j]? = some b → w'.cell? ⟨g, j, none⟩ = some (.int .u8 (b.toNat : Nat))) ∧ (∀ j, j < cap → w'.frozen? ⟨g, j, none⟩ = false) ∧ Below w.heap.size w w' := by
  have hr := run_bytes_of_string (P := Tryd.prog) w 9 45 5 s Tryd.underlying9 Tryd.underlying45 Tryd.underlying5
  have hge := grownCap_ge w s.size 0 5
  generalize grownCap w s.size 0 5 = cap at hr hge
  have hsz : (bytesRow s cap).size = cap := by
    have : s.data.size = s.size := rfl
    simp [bytesRow]
    omega
  rw [hsz] at hr
  have hrow : (w.drew.alloc (.cells (bytesRow s cap) 5 (cap, cap + 1))).heap[w.heap.size]? = some (.cells (bytesRow s cap) 5 (cap, cap + 1)) := heap_alloc_new w.drew _
  refine ⟨w.heap.size, cap, _, hr, Nat.le_refl _, by simp, hge, fun j b hj => ?_, fun j hj => ?_, ((Below.refl _ _).drew).alloc (Nat.le_refl _) _⟩
  · rw [cell_of_row _ _ j _ _ _ hrow]
    have hjl : j < s.data.toList.length := (List.getElem?_eq_some_iff.1 hj).1
    unfold bytesRow
    rw [Array.getElem?_append_left (by simpa using hjl), Array.getElem?_map, ← Array.getElem?_toList, hj]
    rfl
  · unfold World.frozen?
    simp only [hrow]
    simp
    omega
/-- These bytes lie in block g, and may be written. -/
structure Mem8 (w : World) (g cap : Nat) (l : List UInt8) : Prop where
  cells : ∀ j b, l[j]? = some b → w.cell? ⟨g, j, none⟩ = some (.int .u8 (b.toNat : Nat))
  free : ∀ j, j < cap → w.frozen? ⟨g, j, none⟩ = false
theorem Mem8.set {w : World} {g cap : Nat} {l : List UInt8} (h : Mem8 w g cap l) (i : Nat) (hi : i < l.length) (b : UInt8) : Mem8 (w.setCell ⟨g, i, none⟩ (.int .u8 (b.toNat : Nat))).drew g cap (l.set i b) := by
  refine ⟨fun j c hj => ?_, fun j hj => ?_⟩
  · show (w.setCell ⟨g, i, none⟩ (.int .u8 (b.toNat : Nat))).cell? ⟨g, j, none⟩ = _
    by_cases hij : i = j
    · subst hij
      rw [List.getElem?_set_self hi] at hj
      cases hj
      obtain ⟨c, hc⟩ : ∃ c, l[i]? = some c := ⟨l[i], List.getElem?_eq_getElem hi⟩
      have h1 := h.cells i c hc
      exact World.cell?_setCell_same _ _ _ h1
    · rw [List.getElem?_set_ne hij] at hj
      rw [World.cell?_setCell_other]
      · exact h.cells j c hj
      · intro e
        cases e
        exact hij rfl
  · show (w.setCell ⟨g, i, none⟩ (.int .u8 (b.toNat : Nat))).frozen? ⟨g, j, none⟩ = _
    rw [World.frozen?_setCell]
    exact h.free j hj
end OM
end Go.Proofs.YtbklnijmalnnoaaDoor
