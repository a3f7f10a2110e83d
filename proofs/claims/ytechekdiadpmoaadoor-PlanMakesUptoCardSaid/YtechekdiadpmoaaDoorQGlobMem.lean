/- How layer 2's patterns lie in memory: spans, elements, parts; what keeps them there. -/
import Derived.Test.YtechekdiadpmoaaDoorQGlobPlain
import Derived.Test.YtechekdiadpmoaaDoorChecked
import Derived.Lib.OthersKept
import Derived.WalkMore
import Derived.Lib.Hide
import Derived.OwnWalk
import Derived.Laws.OwnMore
set_option linter.all false
set_option maxRecDepth 100000
set_option maxHeartbeats 25600000
namespace Go.Proofs.YtechekdiadpmoaaDoor
open Go.RowKit Go.Lib
namespace GM
open GP

/-- The end of a body without results. -/
theorem end0 {P : Program} {fn : Func} {R : Ending → World → Prop} {a : Act} {w : World} (hr : fn.results = #[]) (hd : a.defers = []) (hR : R (.returned (.tuple #[])) w) : bodyPost P fn R .normal a w := by
  exact bodyPost_end (results_none hr _ _ _) hd hR
/- what is owned stays owned -/
theorem owns_below {w w' : World} {base e size : Nat} {v : Value} {n : Nat} {xs : List Value} (h : w.ownsRow base e size v n xs) (hb : Below w.heap.size w w') : w'.ownsRow base e size v n xs := by
  refine ⟨h.1, ?_⟩
  rcases h.2 with hn | ⟨g, cap, cur, rfl, hb', hgg, rest⟩
  · exact .inl hn
  · exact .inr ⟨g, cap, cur, rfl, hb', by rw [hb.block g (Array.getElem?_eq_some_iff.1 hgg).1]; exact hgg, rest⟩
theorem owns_others {w w' : World} {T base e size : Nat} {v : Value} {n : Nat} {xs : List Value} (h : w.ownsRow base e size v n xs) (hne : e ≠ T) (hk : OthersKept T none w w') : w'.ownsRow base e size v n xs := by
  refine ⟨h.1, ?_⟩
  rcases h.2 with hn | ⟨g, cap, cur, rfl, hb', hgg, rest⟩
  · exact .inl hn
  · refine .inr ⟨g, cap, cur, rfl, hb', hk g _ hgg (by simp) (fun c fz he => ?_), rest⟩
    simp only [Obj.cells.injEq] at he
    exact hne he.2.1
theorem owns_base {w : World} {base e size : Nat} {v : Value} {n : Nat} {xs : List Value} (h : w.ownsRow base e size v n xs) (base' : Nat) (hb : base' ≤ base) : w.ownsRow base' e size v n xs := by
  refine ⟨h.1, ?_⟩
  rcases h.2 with hn | ⟨g, cap, cur, rfl, hb', rest⟩
  · exact .inl hn
  · exact .inr ⟨g, cap, cur, rfl, by omega, rest⟩
theorem below_others {w w' : World} (h : Below w.heap.size w w') (T : Nat) (b : Option Nat) : OthersKept T b w w' := by
  intro k o hk _ _
  rw [h.block k (Array.getElem?_eq_some_iff.1 hk).1]
  exact hk
theorem owns_kind {w : World} {base e size : Nat} {v : Value} {n : Nat} {xs : List Value} (h : w.ownsRow base e size v n xs) : ∀ g, v.ownBlock = some g → ∃ c fz, w.heap[g]? = some (.cells c e fz) := by
  intro g hg
  rcases h.2 with ⟨rfl, _⟩ | ⟨g', cap, cur, rfl, _, hgg, _⟩
  · simp [Value.ownBlock] at hg
  · simp [Value.ownBlock] at hg
    subst hg
    exact ⟨cur, _, hgg⟩
theorem others_grown {w w' : World} {base e size : Nat} {v : Value} {n : Nat} {xs : List Value} (h : w.ownsRow base e size v n xs) (hg : w.grownBy w' v.ownBlock) : OthersKept e none w w' :=
  (OthersKept.refl e none w).grown hg (owns_kind h)
/-- An owned value, as its parts: where it is not empty it has an address, and the cells lie there. -/
theorem owns_view {w : World} {base e size : Nat} {v : Value} {n : Nat} {xs : List Value} (h : w.ownsRow base e size v n xs) : ∃ ao c, v = .slice ao n c ∧ (0 < n → ∃ g, ao = some ⟨g, 0, none⟩ ∧ g < w.heap.size ∧ base ≤ g ∧ ∀ j, j < n * size → w.cell? ⟨g, j, none⟩ = xs[j]?) := by
  have h0 := h
  rcases h.2 with ⟨rfl, rfl⟩ | ⟨g, cap, cur, rfl, hb, hgg, _⟩
  · exact ⟨none, 0, rfl, fun h => absurd h (Nat.lt_irrefl _)⟩
  · exact ⟨_, cap, rfl, fun _ => ⟨g, rfl, (Array.getElem?_eq_some_iff.1 hgg).1, hb, fun j hj => h0.cellAt j hj⟩⟩
theorem owns_len {w : World} {base e size : Nat} {v : Value} {n : Nat} {xs : List Value} (h : w.ownsRow base e size v n xs) : n ≤ maxLen := by
  rcases h.2 with ⟨_, rfl⟩ | ⟨g, cap, cur, _, _, _, h1, h2, _⟩
  · exact Nat.zero_le _
  · omega
theorem owns_one {w : World} {base e size : Nat} {v : Value} {n : Nat} {xs : List Value} (h : w.ownsRow base e size v n xs) : v.oneCell' = true := by
  obtain ⟨ao, c, rfl, _⟩ := owns_view h
  rfl

/- spans -/
def spCells (l : List Sp) : List Value := l.flatMap fun s => [.int .i32 (s.1 : Nat), .int .i32 (s.2 : Nat)]
def LSp (w : World) (v : Value) (l : List Sp) : Prop := w.ownsRow 0 168 2 v l.length (spCells l)
/-- An element as it lies: its two flags, its spans' slice. -/
structure ET where
  m : Bool
  n : Bool
  v : Value
def elV (t : ET) : Value := .agg #[.bool t.m, .bool t.n, t.v]
def LEl (w : World) (t : ET) : El → Prop
  | .star => t = ⟨true, false, .slice none 0 0⟩
  | .set neg sp => t.m = false ∧ t.n = neg ∧ LSp w t.v sp
def elCells (l : List ET) : List Value := l.flatMap fun t => [.bool t.m, .bool t.n, t.v]
def LEls (w : World) (v : Value) (els : List El) : Prop :=
  ∃ tr : List ET, tr.length = els.length ∧ w.ownsRow 0 141 3 v els.length (elCells tr) ∧ ∀ (j : Nat) t e, tr[j]? = some t → els[j]? = some e → LEl w t e
structure PT where
  m : Bool
  v : Value
def LPt (w : World) (t : PT) : Pt → Prop
  | .stars => t = ⟨true, .slice none 0 0⟩
  | .one els => t.m = false ∧ LEls w t.v els
def ptCells (l : List PT) : List Value := l.flatMap fun t => [.bool t.m, t.v]
def LPts (w : World) (v : Value) (ps : List Pt) : Prop :=
  ∃ tr : List PT, tr.length = ps.length ∧ w.ownsRow 0 119 2 v ps.length (ptCells tr) ∧ ∀ (j : Nat) t p, tr[j]? = some t → ps[j]? = some p → LPt w t p
theorem LEl.kept {w w' : World} {t : ET} {e : El} (h : LEl w t e) {T : Nat} (hT : 168 ≠ T) (hk : OthersKept T none w w') : LEl w' t e := by
  cases e with
  | star => exact h
  | set neg sp => exact ⟨h.1, h.2.1, owns_others h.2.2 hT hk⟩
theorem LEl.below {w w' : World} {t : ET} {e : El} (h : LEl w t e) (hb : Below w.heap.size w w') : LEl w' t e := by
  cases e with
  | star => exact h
  | set neg sp => exact ⟨h.1, h.2.1, owns_below h.2.2 hb⟩
theorem LEls.kept {w w' : World} {v : Value} {els : List El} (h : LEls w v els) {T : Nat} (hT : 168 ≠ T) (hT2 : 141 ≠ T) (hk : OthersKept T none w w') : LEls w' v els := by
  obtain ⟨tr, hl, ho, he⟩ := h
  exact ⟨tr, hl, owns_others ho hT2 hk, fun j t e h1 h2 => (he j t e h1 h2).kept hT hk⟩
theorem LEls.below {w w' : World} {v : Value} {els : List El} (h : LEls w v els) (hb : Below w.heap.size w w') : LEls w' v els := by
  obtain ⟨tr, hl, ho, he⟩ := h
  exact ⟨tr, hl, owns_below ho hb, fun j t e h1 h2 => (he j t e h1 h2).below hb⟩
theorem LPt.kept {w w' : World} {t : PT} {p : Pt} (h : LPt w t p) {T : Nat} (hT : 168 ≠ T) (hT2 : 141 ≠ T) (hk : OthersKept T none w w') : LPt w' t p := by
  cases p with
  | stars => exact h
  | one els => exact ⟨h.1, h.2.kept hT hT2 hk⟩
theorem LPt.below {w w' : World} {t : PT} {p : Pt} (h : LPt w t p) (hb : Below w.heap.size w w') : LPt w' t p := by
  cases p with
  | stars => exact h
  | one els => exact ⟨h.1, h.2.below hb⟩
theorem LPts.below {w w' : World} {v : Value} {ps : List Pt} (h : LPts w v ps) (hb : Below w.heap.size w w') : LPts w' v ps := by
  obtain ⟨tr, hl, ho, he⟩ := h
  exact ⟨tr, hl, owns_below ho hb, fun j t e h1 h2 => (he j t e h1 h2).below hb⟩

/- the cells of rows of two and of three -/
theorem flat2 {α : Type} (f g : α → Value) : ∀ (l : List α) (k : Nat) (x : α), l[k]? = some x → (l.flatMap fun t => [f t, g t])[k * 2]? = some (f x) ∧ (l.flatMap fun t => [f t, g t])[k * 2 + 1]? = some (g x)
  | [], k, x, h => by simp at h
  | a :: l, 0, x, h => by simp at h; subst h; simp
  | a :: l, k + 1, x, h => by
    have ih := flat2 f g l k x (by simpa using h)
    have e1 : (k + 1) * 2 = (k * 2) + 2 := by omega
    have e2 : k * 2 + 2 + 1 = (k * 2 + 1) + 2 := by omega
    rw [e1, e2]
    simpa using ih
theorem flat3 {α : Type} (f g i : α → Value) : ∀ (l : List α) (k : Nat) (x : α), l[k]? = some x → (l.flatMap fun t => [f t, g t, i t])[k * 3]? = some (f x) ∧ (l.flatMap fun t => [f t, g t, i t])[k * 3 + 1]? = some (g x) ∧ (l.flatMap fun t => [f t, g t, i t])[k * 3 + 2]? = some (i x)
  | [], k, x, h => by simp at h
  | a :: l, 0, x, h => by simp at h; subst h; simp
  | a :: l, k + 1, x, h => by
    have ih := flat3 f g i l k x (by simpa using h)
    have e1 : (k + 1) * 3 = (k * 3) + 3 := by omega
    have e2 : k * 3 + 3 + 1 = (k * 3 + 1) + 3 := by omega
    have e3 : k * 3 + 3 + 2 = (k * 3 + 2) + 3 := by omega
    rw [e1, e2, e3]
    simpa using ih
theorem flat_snoc {α : Type} (f : α → List Value) (l : List α) (x : α) : (l ++ [x]).flatMap f = l.flatMap f ++ f x := by simp
theorem LEls.val {w : World} {v : Value} {els : List El} (h : LEls w v els) : els.length ≤ maxLen ∧ ∃ ao c, v = .slice ao els.length c := by
  obtain ⟨tr, _, ho, _⟩ := h
  obtain ⟨ao, c, e, _⟩ := owns_view ho
  exact ⟨owns_len ho, ao, c, e⟩
theorem LEl.val {w : World} {t : ET} {e : El} (h : LEl w t e) : ∃ a n c, t.v = .slice a n c := by
  cases e with
  | star => have h0 : t = ⟨true, false, .slice none 0 0⟩ := h; rw [h0]; exact ⟨_, _, _, rfl⟩
  | set neg sp =>
    obtain ⟨ao, c, e, _⟩ := owns_view h.2.2
    exact ⟨_, _, _, e⟩
/-- The element at a place, as it lies. -/
theorem LEls.at {w : World} {ao : Option Addr} {n c : Nat} {els : List El} (h : LEls w (.slice ao n c) els) {k : Nat} {e : El} (hk : els[k]? = some e) :
    ∃ g m nn a j cc, ao = some ⟨g, 0, none⟩ ∧ g < w.heap.size ∧ w.cell? ⟨g, k * 3, none⟩ = some (.bool m) ∧ w.cell? ⟨g, k * 3 + 1, none⟩ = some (.bool nn) ∧ w.cell? ⟨g, k * 3 + 2, none⟩ = some (.slice a j cc) ∧ LEl w ⟨m, nn, .slice a j cc⟩ e := by
  obtain ⟨tr, hl, ho, he⟩ := h
  obtain ⟨hkl, _⟩ := List.getElem?_eq_some_iff.1 hk
  obtain ⟨ao', c', hv, hc⟩ := owns_view ho
  simp only [Value.slice.injEq] at hv
  obtain ⟨rfl, rfl, rfl⟩ := hv
  obtain ⟨g, rfl, hg, _, hcells⟩ := hc (by omega)
  obtain ⟨t, ht⟩ : ∃ t, tr[k]? = some t := ⟨tr[k], List.getElem?_eq_getElem (by omega)⟩
  have hle := he k t e ht hk
  obtain ⟨a, j, cc, hval⟩ := hle.val
  obtain ⟨c1, c2, c3⟩ := flat3 (fun t : ET => Value.bool t.m) (fun t : ET => Value.bool t.n) (fun t : ET => t.v) tr k t ht
  obtain ⟨m, nn, v⟩ := t
  simp only at hval c1 c2 c3
  subst hval
  exact ⟨g, m, nn, a, j, cc, rfl, hg, by rw [hcells _ (by omega)]; exact c1, by rw [hcells _ (by omega)]; exact c2, by rw [hcells _ (by omega)]; exact c3, hle⟩
end GM
end Go.Proofs.YtechekdiadpmoaaDoor
