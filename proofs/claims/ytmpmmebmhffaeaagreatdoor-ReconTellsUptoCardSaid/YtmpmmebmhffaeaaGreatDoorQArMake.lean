/- Layer 6: what the contracts of lists of nodes, made and read, have in common (no function of the program is read here). -/
import Derived.Test.YtmpmmebmhffaeaaGreatDoorQArGo5
import Derived.Laws.AppendOwn
import Derived.Laws.OwnMore
import Derived.Laws.AppendOwnNone
import Derived.Laws.Strings3
set_option linter.all false
set_option maxRecDepth 100000
set_option maxHeartbeats 25600000
namespace Go.Proofs.YtmpmmebmhffaeaaGreatDoor
open Go.RowKit Go.Lib Go.BigFrame
namespace TR
open OM TP TM

def zeroN : Nd := ⟨[], 0, [], 0⟩
theorem cell4 {W : World} {b : Nat} {a0 a1 a2 a3 : Value} {t : TypeId} (h : W.heap[b]? = some (.cells #[a0, a1, a2, a3] t (0, 0))) :
    W.cell? ⟨b, 0, none⟩ = some a0 ∧ W.cell? ⟨b, 1, none⟩ = some a1 ∧ W.cell? ⟨b, 2, none⟩ = some a2 ∧ W.cell? ⟨b, 3, none⟩ = some a3 ∧ ∀ j, W.frozen? ⟨b, j, none⟩ = false :=
  ⟨by rw [cell_of_row W b 0 _ _ _ h]; rfl, by rw [cell_of_row W b 1 _ _ _ h]; rfl, by rw [cell_of_row W b 2 _ _ _ h]; rfl, by rw [cell_of_row W b 3 _ _ _ h]; rfl, fun j => frozen_of_row W b j _ _ h⟩
theorem below4 {w W : World} (h : Below w.heap.size w W) (a b c d : Value) : Below w.heap.size w ((((W.setCell ⟨w.heap.size, 0, none⟩ a).setCell ⟨w.heap.size, 1, none⟩ b).setCell ⟨w.heap.size, 2, none⟩ c).setCell ⟨w.heap.size, 3, none⟩ d) :=
  (((h.setCell (p := ⟨w.heap.size, 0, none⟩) (Nat.le_refl _) _).setCell (p := ⟨w.heap.size, 1, none⟩) (Nat.le_refl _) _).setCell (p := ⟨w.heap.size, 2, none⟩) (Nat.le_refl _) _).setCell (p := ⟨w.heap.size, 3, none⟩) (Nat.le_refl _) _
theorem infoN : (Tryz.prog.info? 40).map (fun i => (i.zero, i.size, i.bytes)) = some (some (ndVal zeroN), 4, 48) := by kernel_rfl
/-- What At answers, wherever the nodes lie. -/
def AtPost (l : List Nd) (w : World) (r : Ending) (w' : World) : Prop :=
  ∃ v, r = .returned v ∧ w'.ownsRow w.heap.size 40 4 v l.length (nodesC l) ∧ Below w.heap.size w w'
theorem AtPost.nil {l : List Nd} {w w' : World} (h : l = []) (hb : Below w.heap.size w w') : AtPost l w (.returned (.slice none 0 0)) w' :=
  ⟨_, rfl, by rw [h]; exact World.ownsRow_nil _ _ _ _, hb⟩
theorem nd_one (n : Nd) : ∀ u ∈ ndCells n, u.oneCell' = true := by
  intro u hu
  unfold ndCells txt at hu
  simp at hu
  rcases hu with rfl | rfl | rfl | rfl <;> rfl
/-- The cells of a node just made. -/
theorem four_new (W : World) (g : Nat) (hg : g = W.heap.size) (n : Nd) (a d : Value) (ha : txt n.path = a) (hd : txt n.data = d) (t : TypeId) :
    ∀ (j : Nat) (u : Value), (ndCells n)[j]? = some u → (W.alloc (.cells #[a, .int .i64 n.kind, d, .int .i64 n.mode] t)).cell? ((⟨g, 0, none⟩ : Addr).add j) = some u := by
  subst hg ha hd
  obtain ⟨c0, c1, c2, c3, _⟩ := cell4 (heap_alloc_new W (.cells #[txt n.path, .int .i64 n.kind, txt n.data, .int .i64 n.mode] t))
  intro j u hu
  have e : (⟨W.heap.size, 0, none⟩ : Addr).add j = ⟨W.heap.size, j, none⟩ := by simp [Addr.add]; omega
  rw [e]
  match j with
  | 0 => exact c0.trans hu
  | 1 => exact c1.trans hu
  | 2 => exact c2.trans hu
  | 3 => exact c3.trans hu
  | j + 4 => cases hu
/-- A list of one node, just made, is owned. -/
theorem own_new (W : World) (base : Nat) (hb : base ≤ W.heap.size) (n : Nd) (a d : Value) (ha : txt n.path = a) (hd : txt n.data = d) :
    (W.alloc (.cells #[a, .int .i64 n.kind, d, .int .i64 n.mode] 40)).ownsRow base 40 4 (.slice (some ⟨W.heap.size, 0, none⟩) 1 1) 1 (ndCells n) := by
  subst ha hd
  exact ⟨rfl, .inr ⟨W.heap.size, 1, _, rfl, hb, heap_alloc_new W _, Nat.le_refl _, by decide, rfl, rfl⟩⟩
theorem lay_cells {W : World} {ad : Addr} {ts : List Nd} (h : LayN W (some ad) ts) : ∀ (j : Nat) (u : Value), (nodesC ts)[j]? = some u → W.cell? (ad.add j) = some u := by
  intro j u hu
  have hj := (List.getElem?_eq_some_iff.1 hu).1
  rw [nodes_len] at hj
  obtain ⟨g, o, e, _, hc⟩ := h (by omega)
  cases e
  obtain ⟨x, hx⟩ : ∃ x, ts[j / 4]? = some x := ⟨_, List.getElem?_eq_getElem (show j / 4 < ts.length by omega)⟩
  obtain ⟨y0, y1, y2, y3⟩ := hc _ x hx
  obtain ⟨z0, z1, z2, z3⟩ := nodes_at ts _ x hx
  have e : (⟨g, o, none⟩ : Addr).add j = ⟨g, o + j, none⟩ := by simp [Addr.add]
  rw [e]
  rcases (by omega : j = j / 4 * 4 ∨ j = j / 4 * 4 + 1 ∨ j = j / 4 * 4 + 2 ∨ j = j / 4 * 4 + 3) with hr | hr | hr | hr
  · rw [hr] at hu ⊢; rw [z0] at hu; rw [← hu]; exact y0
  · rw [hr] at hu ⊢; rw [z1] at hu; rw [← hu]; exact y1
  · rw [hr] at hu ⊢; rw [z2] at hu; rw [← hu]; exact y2
  · rw [hr] at hu ⊢; rw [z3] at hu; rw [← hu]; exact y3
theorem nds_one (ts : List Nd) : ∀ u ∈ nodesC ts, u.oneCell' = true := by
  intro u hu
  unfold nodesC at hu
  rw [List.mem_flatMap] at hu
  obtain ⟨x, _, hx⟩ := hu
  exact nd_one x u hx
end TR
end Go.Proofs.YtmpmmebmhffaeaaGreatDoor
