/- Layer 4: arrays of words that lie in memory whole, and what loads and stores of them do. -/
import Derived.Test.YtmpmmebmhffaeaaDoorQHashFn
import Derived.Deep.WholeRow
set_option linter.all false
set_option maxRecDepth 100000
set_option maxHeartbeats 25600000
namespace Go.Proofs.YtmpmmebmhffaeaaDoor
open Go.RowKit Go.Lib
namespace HQ
open HP HS HR

/-- Words in the cells of an array. -/
def cellsU (l : List Nat) : Array Value := (l.map fun n : Nat => Value.int .u32 n).toArray
theorem cellsU_size (l : List Nat) : (cellsU l).size = l.length := by simp [cellsU]
theorem cellsU_get (l : List Nat) (i : Nat) : (cellsU l)[i]? = (l[i]?).map fun n : Nat => Value.int .u32 n := by simp [cellsU]
theorem cellsU_set (l : List Nat) (i n : Nat) : (cellsU l).setIfInBounds i (.int .u32 (n : Nat)) = cellsU (l.set i n) := by
  unfold cellsU
  rw [List.setIfInBounds_toArray, List.map_set]
theorem cellsU_one (l : List Nat) : (cellsU l).all (·.oneCell') = true := by
  rw [Array.all_eq_true_iff_forall_mem]
  intro v hv
  simp [cellsU] at hv
  obtain ⟨n, _, rfl⟩ := hv
  rfl
/-- These words are block g. -/
def Row (w : World) (g : Nat) (l : List Nat) (t : TypeId) : Prop := w.heap[g]? = some (.cells (cellsU l) t (0, 0))
theorem Row.lt {w : World} {g : Nat} {l : List Nat} {t : TypeId} (h : Row w g l t) : g < w.heap.size := by
  rcases Nat.lt_or_ge g w.heap.size with h1 | h1
  · exact h1
  · unfold Row at h
    rw [Array.getElem?_eq_none h1] at h
    cases h
theorem Row.cell {w : World} {g : Nat} {l : List Nat} {t : TypeId} (h : Row w g l t) {i x : Nat} (hx : l[i]? = some x) : w.cell? ⟨g, i, none⟩ = some (.int .u32 (x : Nat)) := by
  rw [cell_of_row w g i _ t (0, 0) h, cellsU_get, hx]
  rfl
theorem Row.frozen {w : World} {g : Nat} {l : List Nat} {t : TypeId} (h : Row w g l t) (i : Nat) : w.frozen? ⟨g, i, none⟩ = false := frozen_of_row w g i _ t h
theorem Row.drew {w : World} {g : Nat} {l : List Nat} {t : TypeId} (h : Row w g l t) : Row w.drew g l t := h
theorem Row.new (w : World) (l : List Nat) (t : TypeId) : Row (w.alloc (.cells (cellsU l) t)) w.heap.size l t := heap_alloc_new w _
theorem Row.newAt (w : World) (l : List Nat) (t : TypeId) {g : Nat} (hg : g = w.heap.size) : Row (w.alloc (.cells (cellsU l) t)) g l t := hg ▸ heap_alloc_new w _
theorem Row.alloc {w : World} {g : Nat} {l : List Nat} {t : TypeId} (h : Row w g l t) (o : Obj) : Row (w.alloc o) g l t := (Below.heap_alloc w o g h.lt).trans h
theorem Row.set {w : World} {g : Nat} {l : List Nat} {t : TypeId} (h : Row w g l t) (i x : Nat) : Row (w.setCell ⟨g, i, none⟩ (.int .u32 (x : Nat))) g (l.set i x) t := by
  unfold Row
  rw [heap_setCell_same w g i _ t _ h, cellsU_set]
theorem Row.setOther {w : World} {g : Nat} {l : List Nat} {t : TypeId} (h : Row w g l t) {a : Addr} (v : Value) (ha : g ≠ a.block) : Row (w.setCell a v) g l t := by
  unfold Row
  rw [heap_setCell_other w a g v ha]
  exact h
theorem Row.setRow {w : World} {g : Nat} {l : List Nat} {t : TypeId} (h : Row w g l t) (m : List Nat) : Row (w.setRow g (cellsU m)) g m t := setRow_heap w g _ _ t (0, 0) h
theorem Row.setRowOther {w : World} {g : Nat} {l : List Nat} {t : TypeId} (h : Row w g l t) {k : Nat} (cs : Array Value) (hk : g ≠ k) : Row (w.setRow k cs) g l t := (setRow_other w k g cs hk).trans h
theorem Row.below {B : Nat} {w w' : World} {g : Nat} {l : List Nat} {t : TypeId} (h : Row w g l t) (hb : Below B w w') (hg : g < B) : Row w' g l t := (hb.block g hg).trans h
theorem below_setRow {B : Nat} {a w : World} (h : Below B a w) {g : Nat} (hg : B ≤ g) (cs : Array Value) : Below B a (w.setRow g cs) :=
  ⟨h.os, h.tape, h.output, by rw [setRow_size]; exact h.size, fun k hk => (setRow_other w g k cs (by omega)).trans (h.block k hk)⟩
end HQ
end Go.Proofs.YtmpmmebmhffaeaaDoor
