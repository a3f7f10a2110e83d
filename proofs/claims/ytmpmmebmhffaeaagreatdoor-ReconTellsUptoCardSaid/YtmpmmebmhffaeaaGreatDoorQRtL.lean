/- Layer 12: the document's look: what it tells at each path; its Items. -/
import Derived.Test.YtmpmmebmhffaeaaGreatDoorQRtN
import Derived.Test.YtmpmmebmhffaeaaGreatDoorQRcApP
set_option linter.all false
set_option maxRecDepth 100000
set_option maxHeartbeats 25600000
namespace Go.Proofs.YtmpmmebmhffaeaaGreatDoor
open Go.RowKit Go.Lib Go.Maps Go.BigFrame Go.Sort
namespace RC
open OM TP TM TR TG TW NP

theorem last_uniq {a b c d : List UInt8} (h : a ++ 47 :: b = c ++ 47 :: d) (hb : 47 ∉ b) (hd : 47 ∉ d) : a = c ∧ b = d := by
  rcases List.append_eq_append_iff.1 h with ⟨a', e1, e2⟩ | ⟨c', e1, e2⟩
  · cases a' with
    | nil =>
      rw [List.nil_append] at e2
      injection e2 with _ e2
      exact ⟨by rw [e1, List.append_nil], e2⟩
    | cons x a' =>
      injection e2 with _ e2
      exact absurd (by rw [e2]; simp) hb
  · cases c' with
    | nil =>
      rw [List.nil_append] at e2
      injection e2 with _ e2
      exact ⟨by rw [e1, List.append_nil], e2.symm⟩
    | cons x c' =>
      injection e2 with _ e2
      exact absurd (by rw [e2]; simp) hd
/-- The names of a value: those that stand right below its path. -/
theorem key_names {t : List Nd} (ht : Tree t) {p z : List UInt8} (hp : p = [] ∨ pathL p = true) : z ∈ keysL (valP t p) ↔ z ∈ namesL t p := by
  constructor
  · intro h
    obtain ⟨h1, h2, h3⟩ := key_name ht hp h
    have hs := sub_val ht hp h1 h2
    have hne : valP t (belowP p z) ≠ [] := fun e => by
      rw [e] at hs
      cases hv : valP t p with
      | nil => rw [hv] at h; cases h
      | cons x r =>
        rw [hv] at h hs
        obtain ⟨n, hn, hk⟩ := List.mem_map.1 h
        have : n ∈ subL (x :: r) z := List.mem_filter.2 ⟨hn, by simpa using hk⟩
        rw [hs] at this
        cases this
    cases hv : valP t (belowP p z) with
    | nil => exact absurd hv hne
    | cons x r =>
      obtain ⟨e1, e2, -⟩ := head_p ht h3 hv
      have hul : upL x.path = p ∧ lastL x.path = z := by
        rcases hp with rfl | hp
        · rw [e1, below_nil]
          rcases up_cases z with ⟨_, a, b⟩ | ⟨u, s, e, _⟩
          · exact ⟨a, b⟩
          · exact absurd (by rw [e]; simp) h2
        · rw [e1, below_ne hp]
          rcases up_cases (p ++ 47 :: z) with ⟨a, _⟩ | ⟨u, s, e, a, b, c⟩
          · exact absurd (by simp) a
          · obtain ⟨f1, f2⟩ := last_uniq e h2 a
            exact ⟨by rw [b, f1], by rw [c, f2]⟩
      have hd : Dir t p := by
        have := ht.dir x e2
        rw [hul.1] at this
        exact this
      rw [names_tree ht hd]
      exact List.mem_map.2 ⟨x, List.mem_filter.2 ⟨e2, by simpa using hul.1⟩, hul.2⟩
  · intro h
    by_cases hd : Dir t p
    · have h0 := h
      rw [names_tree ht hd] at h0
      obtain ⟨n, hn, e⟩ := List.mem_map.1 h0
      obtain ⟨hn, hu⟩ := List.mem_filter.1 hn
      have hu : upL n.path = p := by simpa using hu
      have hz : 47 ∉ z := by rw [← e]; exact last_no _
      have hpn := ht.path n hn
      have hpa : n.path = belowP p z := by
        have := up_last n.path hpn
        rw [hu, e] at this
        rcases hp with rfl | hp
        · rw [if_pos rfl] at this
          rw [below_nil]; exact this
        · rw [if_neg (path_ne hp)] at this
          rw [below_ne hp]; exact this
      have hz0 : z ≠ [] := fun e0 => by
        rw [e0] at hpa
        rcases hp with rfl | hp
        · rw [below_nil] at hpa
          exact path_ne hpn hpa
        · rw [below_ne hp] at hpa
          rw [hpa] at hpn
          exact path_tail_ne hpn rfl
      rw [hpa] at hpn
      obtain ⟨k1, k2, k3⟩ := (key_of hp hpn hz0 hz hpn).1 (inP_self (.inr hpn))
      rw [← hpa] at k1 k2 k3
      have := mem_key ht hp hn k1 k2
      rw [k3] at this
      exact this
    · rw [names_no ht hd] at h
      cases h
theorem names_eq {xo ta tb : List Nd} (ho : Tree xo) (ha : Tree ta) (hb : Tree tb) {p : List UInt8} (hp : p = [] ∨ pathL p = true) : ordK (namesL xo p ++ namesL ta p ++ namesL tb p) = namesK (valP xo p) (valP ta p) (valP tb p) :=
  ordK_congr fun z => by
    simp only [List.mem_append]
    rw [key_names ho hp, key_names ha hp, key_names hb hp]
theorem dir_at {t : List Nd} (ht : Tree t) (p : List UInt8) : dirA (atL t p) = dirV (valP t p) := by
  unfold atL
  rw [if_pos ((tree_iff t).2 ht)]
  by_cases hp : p = []
  · rw [if_pos hp, hp, valP_nil]; rfl
  · rw [if_neg hp, valP_ne t hp]
    cases t.filter fun n => withinL n.path p with
    | nil => rfl
    | cons x r => rfl
theorem names_le {t : List Nd} (ht : Tree t) (p : List UInt8) : (namesL t p).length ≤ 1000 := by
  rw [names_len ht p]
  exact Nat.le_trans (List.length_filter_le _ _) ht.len
/-- Rows of texts stay as they are. -/
def KeepT (W W' : World) : Prop := W.heap.size ≤ W'.heap.size ∧ ∀ (k : Nat) (c : Array Value) (f : Nat × Nat), W.heap[k]? = some (Obj.cells c 9 f) → W'.heap[k]? = some (Obj.cells c 9 f)
theorem KeepT.refl (W : World) : KeepT W W := ⟨Nat.le_refl _, fun _ _ _ h => h⟩
theorem KeepT.trans {A B C : World} (h : KeepT A B) (k : KeepT B C) : KeepT A C := ⟨Nat.le_trans h.1 k.1, fun j c f e => k.2 j c f (h.2 j c f e)⟩
theorem KeepT.below {W W' : World} (h : Below W.heap.size W W') : KeepT W W' := ⟨h.size, fun k c f e => (h.block k (Array.getElem?_eq_some_iff.1 e).1).trans e⟩
theorem KeepT.grown {W W' : World} {B size n : Nat} {v : Value} {xs : List Value} {e : TypeId} (h : W.grownBy W' v.ownBlock) (ho : W.ownsRow B e size v n xs) (he : e ≠ 9) : KeepT W W' := ⟨h.size, fun k c f hk => by
  refine (h.block k (Array.getElem?_eq_some_iff.1 hk).1 fun e2 => ?_).trans hk
  rcases ho.2 with ⟨e1, _⟩ | ⟨g, cap, cur, e1, _, h1, _⟩
  · rw [e1] at e2; cases e2
  · rw [e1] at e2
    have e2 : some k = some g := e2
    injection e2 with e2
    rw [e2, h1] at hk
    injection hk with hk
    injection hk with _ hk _
    exact he hk⟩
/-- A slice of texts lies there, in a row of texts. -/
def LayT (W : World) (ao : Option Addr) (l : List (List UInt8)) : Prop := 0 < l.length → ∃ g c f, ao = some ⟨g, 0, none⟩ ∧ W.heap[g]? = some (Obj.cells c 9 f) ∧ ∀ (i : Nat) (x : List UInt8), l[i]? = some x → W.cell? ⟨g, i, none⟩ = some (txt x)
theorem LayT.keep {W W' : World} {ao : Option Addr} {l : List (List UInt8)} (h : LayT W ao l) (hk : KeepT W W') : LayT W' ao l := fun h0 => by
  obtain ⟨g, c, f, e, h1, h2⟩ := h h0
  refine ⟨g, c, f, e, hk.2 g c f h1, fun i x hi => ?_⟩
  rw [← h2 i x hi]
  exact World.cell?_of_block ((hk.2 g c f h1).trans h1.symm)
theorem lay_t {w : World} {B : Nat} {v : Value} {l : List (List UInt8)} (h : w.ownsRow B 9 1 v l.length (l.map txt)) : ∃ ao c, v = .slice ao l.length c ∧ LayT w ao l := by
  obtain ⟨ao, c, rfl, hx⟩ := owns_view h
  refine ⟨ao, c, rfl, fun h0 => ?_⟩
  obtain ⟨g, rfl, hg, _, hc⟩ := hx h0
  rcases h.2 with ⟨e1, _⟩ | ⟨g', cap, cur, e1, _, h1, _⟩
  · injection e1 with e1; cases e1
  · injection e1 with e1
    injection e1 with e1
    injection e1 with e1
    subst e1
    refine ⟨g, _, _, rfl, h1, fun k n hk => ?_⟩
    have hkl := (List.getElem?_eq_some_iff.1 hk).1
    refine (hc k (by omega)).trans ?_
    rw [List.getElem?_map, hk]
    rfl
theorem two_it (W : World) (p : List UInt8) (v : Int) : ∀ (j : Nat) (u : Value), [txt p, .int .i64 v][j]? = some u → (W.alloc (.cells #[txt p, .int .i64 v] 43)).cell? ((⟨W.heap.size, 0, none⟩ : Addr).add j) = some u := by
  intro j u hu
  have hh := heap_alloc_new W (.cells #[txt p, .int .i64 v] 43)
  match j, hu with
  | 0, hu =>
    simp at hu
    subst hu
    exact (cell_of_row (W.alloc (.cells #[txt p, .int .i64 v] 43)) W.heap.size 0 _ _ _ hh).trans rfl
  | 1, hu =>
    simp at hu
    subst hu
    exact (cell_of_row (W.alloc (.cells #[txt p, .int .i64 v] 43)) W.heap.size 1 _ _ _ hh).trans rfl
end RC
end Go.Proofs.YtmpmmebmhffaeaaGreatDoor
