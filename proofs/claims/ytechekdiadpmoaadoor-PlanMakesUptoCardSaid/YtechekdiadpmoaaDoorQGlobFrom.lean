/- Layer 2: the contract of from: whether parts match names, with what was tried kept in a map. -/
import Derived.Test.YtechekdiadpmoaaDoorQGlobMap
import Derived.Test.YtechekdiadpmoaaDoorQGlobFitP
import Derived.BigQuiet
import Derived.Deep.QuietTactic
import Derived.Lib.QuietBelow
import Derived.Deep.RegionWith
import Derived.Deep.RegionHeld3
set_option linter.all false
set_option maxRecDepth 100000
set_option maxHeartbeats 25600000
namespace Go.Proofs.YtechekdiadpmoaaDoor
open Go.RowKit Go.Lib
namespace GH
open GP GM
open Go.ChangeMaps (setBlock)

/- plain -/
theorem mat_end {ps : List Pt} {ns : List (List UInt8)} {i j : Nat} (hi : ps.length ≤ i) : mat (ps.drop i) (ns.drop j) = decide (ns.length ≤ j) := by
  rw [List.drop_eq_nil_of_le hi]
  show (ns.drop j).isEmpty = _
  by_cases h : ns.length ≤ j
  · rw [List.drop_eq_nil_of_le h, decide_eq_true h]; rfl
  · rw [decide_eq_false h, List.drop_eq_getElem_cons (by omega)]; rfl
theorem mat_one_end {ps : List Pt} {ns : List (List UInt8)} {i j : Nat} {els : List El} (hi : ps[i]? = some (.one els)) (hj : ns.length ≤ j) : mat (ps.drop i) (ns.drop j) = false := by
  obtain ⟨h, e⟩ := List.getElem?_eq_some_iff.1 hi
  rw [List.drop_eq_getElem_cons h, e, List.drop_eq_nil_of_le hj]
  rfl
theorem mat_one {ps : List Pt} {ns : List (List UInt8)} {i j : Nat} {els : List El} {n : List UInt8} (hi : ps[i]? = some (.one els)) (hj : ns[j]? = some n) : mat (ps.drop i) (ns.drop j) = (fitsL els n && mat (ps.drop (i + 1)) (ns.drop (j + 1))) := by
  obtain ⟨h, e⟩ := List.getElem?_eq_some_iff.1 hi
  obtain ⟨h2, e2⟩ := List.getElem?_eq_some_iff.1 hj
  rw [List.drop_eq_getElem_cons h, e, List.drop_eq_getElem_cons h2, e2]
  rfl
theorem mat_stars_end {ps : List Pt} {ns : List (List UInt8)} {i j : Nat} (hi : ps[i]? = some .stars) (hj : ns.length ≤ j) : mat (ps.drop i) (ns.drop j) = mat (ps.drop (i + 1)) (ns.drop j) := by
  obtain ⟨h, e⟩ := List.getElem?_eq_some_iff.1 hi
  rw [List.drop_eq_getElem_cons h, e, List.drop_eq_nil_of_le hj]
  rfl
theorem mat_stars {ps : List Pt} {ns : List (List UInt8)} {i j : Nat} {n : List UInt8} (hi : ps[i]? = some .stars) (hj : ns[j]? = some n) : mat (ps.drop i) (ns.drop j) = (mat (ps.drop (i + 1)) (ns.drop j) || mat (ps.drop i) (ns.drop (j + 1))) := by
  obtain ⟨h, e⟩ := List.getElem?_eq_some_iff.1 hi
  obtain ⟨h2, e2⟩ := List.getElem?_eq_some_iff.1 hj
  rw [List.drop_eq_getElem_cons h, e, List.drop_eq_getElem_cons h2, e2]
  rfl

/- what lies, behind calls that write the map alone -/
def CellsKept (w w' : World) : Prop := ∀ (k : Nat) (c : Array Value) (T : TypeId) (z : Nat × Nat), w.heap[k]? = some (Obj.cells c T z) → w'.heap[k]? = some (Obj.cells c T z)
theorem cells_grown {w w' : World} {b : Nat} {es : Array MapEntry} {clock : Nat} (hb : w.heap[b]? = some (.map es clock)) (hg : w.grownBy w' (some b)) : CellsKept w w' := by
  intro k c T z hk
  rw [hg.block k (Array.getElem?_eq_some_iff.1 hk).1 ?_]
  · exact hk
  · intro e
    simp only [Option.some.injEq] at e
    rw [e, hb] at hk
    cases hk
theorem cells_below {w w' : World} (hb : Below w.heap.size w w') : CellsKept w w' := by
  intro k c T z hk
  rw [hb.block k (Array.getElem?_eq_some_iff.1 hk).1]
  exact hk
theorem CellsKept.owns {w w' : World} {base e size : Nat} {v : Value} {n : Nat} {xs : List Value} (hk : CellsKept w w') (h : w.ownsRow base e size v n xs) : w'.ownsRow base e size v n xs := by
  refine ⟨h.1, ?_⟩
  rcases h.2 with hn | ⟨g, cap, cur, rfl, hb', hgg, rest⟩
  · exact .inl hn
  · exact .inr ⟨g, cap, cur, rfl, hb', hk _ _ _ _ hgg, rest⟩
theorem CellsKept.el {w w' : World} (hk : CellsKept w w') {t : ET} {e : El} (h : LEl w t e) : LEl w' t e := by
  cases e with
  | star => exact h
  | set neg sp => exact ⟨h.1, h.2.1, hk.owns h.2.2⟩
theorem CellsKept.els {w w' : World} (hk : CellsKept w w') {v : Value} {els : List El} (h : LEls w v els) : LEls w' v els := by
  obtain ⟨tr, hl, ho, he⟩ := h
  exact ⟨tr, hl, hk.owns ho, fun j t e h1 h2 => hk.el (he j t e h1 h2)⟩
theorem CellsKept.pts {w w' : World} (hk : CellsKept w w') {v : Value} {ps : List Pt} (h : LPts w v ps) : LPts w' v ps := by
  obtain ⟨tr, hl, ho, he⟩ := h
  refine ⟨tr, hl, hk.owns ho, fun j t p h1 h2 => ?_⟩
  have := he j t p h1 h2
  cases p with
  | stars => exact this
  | one els => exact ⟨this.1, hk.els this.2⟩
theorem pts_val {w : World} {v : Value} {ps : List Pt} (h : LPts w v ps) : ps.length ≤ maxLen ∧ ∃ ao c, v = .slice ao ps.length c := by
  obtain ⟨tr, _, ho, _⟩ := h
  obtain ⟨ao, c, e, _⟩ := owns_view ho
  exact ⟨owns_len ho, ao, c, e⟩
/-- The part at a place, as it lies. -/
theorem pts_at {w : World} {ao : Option Addr} {n c : Nat} {ps : List Pt} (h : LPts w (.slice ao n c) ps) {k : Nat} {p : Pt} (hk : ps[k]? = some p) :
    ∃ g m a j cc, ao = some ⟨g, 0, none⟩ ∧ g < w.heap.size ∧ w.cell? ⟨g, k * 2, none⟩ = some (.bool m) ∧ w.cell? ⟨g, k * 2 + 1, none⟩ = some (.slice a j cc) ∧ LPt w ⟨m, .slice a j cc⟩ p := by
  obtain ⟨tr, hl, ho, he⟩ := h
  obtain ⟨hkl, _⟩ := List.getElem?_eq_some_iff.1 hk
  obtain ⟨ao', c', hv, hc⟩ := owns_view ho
  simp only [Value.slice.injEq] at hv
  obtain ⟨rfl, rfl, rfl⟩ := hv
  obtain ⟨g, rfl, hg, _, hcells⟩ := hc (by omega)
  obtain ⟨t, ht⟩ : ∃ t, tr[k]? = some t := ⟨tr[k], List.getElem?_eq_getElem (by omega)⟩
  have hle := he k t p ht hk
  obtain ⟨c1, c2⟩ := flat2 (fun t : PT => Value.bool t.m) (fun t : PT => t.v) tr k t ht
  obtain ⟨m, v⟩ := t
  have hval : ∃ a j cc, v = .slice a j cc := by
    cases p with
    | stars =>
      have h0 : (⟨m, v⟩ : PT) = ⟨true, .slice none 0 0⟩ := hle
      simp only [PT.mk.injEq] at h0
      exact ⟨_, _, _, h0.2⟩
    | one els =>
      obtain ⟨_, ao2, c2, e⟩ := hle.2.val
      exact ⟨_, _, _, e⟩
  obtain ⟨a, j, cc, rfl⟩ := hval
  exact ⟨g, m, a, j, cc, rfl, hg, by rw [hcells _ (by omega)]; exact c1, by rw [hcells _ (by omega)]; exact c2, hle⟩
/-- The names of a path, as they lie. -/
def NamesAt (w : World) (gn o : Nat) (xs : List ByteArray) : Prop := gn < w.heap.size ∧ ∀ (j : Nat) x, xs[j]? = some x → w.cell? ⟨gn, o + j, none⟩ = some (.string x)
theorem cell_obj {w : World} {b o : Nat} {v : Value} (h : w.cell? ⟨b, o, none⟩ = some v) : ∃ c T z, w.heap[b]? = some (.cells c T z) := by
  simp only [World.cell?] at h
  split at h
  · rename_i c T z hc
    exact ⟨c, T, z, hc⟩
  · cases h
theorem CellsKept.names {w w' : World} (hk : CellsKept w w') (hs : w.heap.size ≤ w'.heap.size) {gn o : Nat} {xs : List ByteArray} (h : NamesAt w gn o xs) : NamesAt w' gn o xs := by
  refine ⟨by have := h.1; omega, fun j x hx => ?_⟩
  have h1 := h.2 j x hx
  obtain ⟨c, T, z, hc⟩ := cell_obj h1
  rw [← h1]
  refine World.cell?_of_block ?_
  show w'.heap[gn]? = w.heap[gn]?
  rw [hk _ _ _ _ hc, hc]
def Few (ps : List Pt) : Prop := ps.length ≤ 1000 ∧ ∀ els, Pt.one els ∈ ps → els.length ≤ 400
def sf (ps : List Pt) (ns : List (List UInt8)) (p : Nat × Nat) : Prop := mat (ps.drop p.1) (ns.drop p.2) = false
def FromPost (ps : List Pt) (ns : List (List UInt8)) (D : List (Nat × Nat)) (b i j : Nat) (w : World) (e : Ending) (w' : World) : Prop :=
  ∃ D', e = .returned (.bool (mat (ps.drop i) (ns.drop j))) ∧ MapIs w' b D' ∧ w.grownBy w' (some b) ∧ (mat (ps.drop i) (ns.drop j) = false → ∀ p ∈ D', p ∈ D ∨ sf ps ns p)
theorem below_drewN {B : Nat} {a w : World} {n : Nat} (h : Below B a w) : Below B a (w.drewN n) := ⟨h.os, h.tape, h.output, h.size, h.block⟩
theorem grown_of {w w' : World} (h : Below w.heap.size w w') (b : Option Nat) : w.grownBy w' b := ⟨h.os, h.tape, h.output, h.size, fun k hk _ => h.block k hk⟩
theorem grown_trans {a b c : World} {k : Option Nat} (h : a.grownBy b k) (h2 : b.grownBy c k) : a.grownBy c k :=
  ⟨h2.os.trans h.os, h2.tape.trans h.tape, h2.output.trans h.output, Nat.le_trans h.size h2.size, fun i hi hne => (h2.block i (Nat.lt_of_lt_of_le hi h.size) hne).trans (h.block i hi hne)⟩
theorem cells_of {w w1 w2 : World} {b : Nat} {D : List (Nat × Nat)} (hM : MapIs w b D) (hb : Below w.heap.size w w1) (hg : w1.grownBy w2 (some b)) : CellsKept w1 w2 := by
  obtain ⟨es, clock, hbk, _⟩ := hM.same (hb.block b hM.lt)
  exact cells_grown hbk hg
theorem CellsKept.cell {w w' : World} (hk : CellsKept w w') {b o : Nat} {v : Value} (h : w.cell? ⟨b, o, none⟩ = some v) : w'.cell? ⟨b, o, none⟩ = some v := by
  obtain ⟨c, T, z, hc⟩ := cell_obj h
  rw [← h]
  refine World.cell?_of_block ?_
  show w'.heap[b]? = w.heap[b]?
  rw [hk _ _ _ _ hc, hc]
theorem below_undrew {W w' : World} (h : Below W.drew.heap.size W.drew w') : Below W.heap.size W w' := ⟨h.os, h.tape, h.output, h.size, h.block⟩
theorem FromPost.of {ps : List Pt} {ns : List (List UInt8)} {D : List (Nat × Nat)} {b i j : Nat} {w w' : World} {X : Bool} (hX : mat (ps.drop i) (ns.drop j) = X) (hm : MapIs w b D) (hb : Below w.heap.size w w') : FromPost ps ns D b i j w (.returned (.bool X)) w' :=
  ⟨D, by rw [hX], hm.same (hb.block b hm.lt), ⟨hb.os, hb.tape, hb.output, hb.size, fun k hk _ => hb.block k hk⟩, fun _ p hp => .inl hp⟩
end GH
end Go.Proofs.YtechekdiadpmoaaDoor
