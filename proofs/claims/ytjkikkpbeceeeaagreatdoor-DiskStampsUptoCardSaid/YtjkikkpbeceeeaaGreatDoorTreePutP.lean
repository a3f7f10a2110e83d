/- Layer 6 over lists: the rounds of the document's Put (no program is read here). -/
import Derived.Test.YtjkikkpbeceeeaaGreatDoorTreePut
namespace Go.Proofs.YtjkikkpbeceeeaaGreatDoor.TP
open Go NP

/-- Ahead of the place, and not within it. -/
def lowN (p : List UInt8) (n : Nd) : Bool := !withinL n.path p && decide (ordL n.path p < 0)
/-- Behind the place, and not within it. -/
def highN (p : List UInt8) (n : Nd) : Bool := !withinL n.path p && !decide (ordL n.path p < 0)
/-- What is written after i rounds; b says that the value has been written. -/
def outK (t : List Nd) (p : List UInt8) (v : List Nd) (i : Nat) (b : Bool) : List Nd :=
  ((t.take i).filter (lowN p)) ++ (if b = true then v.map (placeN p) ++ (t.take i).filter (highN p) else [])
theorem outK_zero (t : List Nd) (p : List UInt8) (v : List Nd) : outK t p v 0 false = [] := rfl
theorem outK_end {t : List Nd} {p : List UInt8} {v : List Nd} {i : Nat} (h : t.length ≤ i) : outK t p v i true = outL t p v := by
  unfold outK outL
  rw [List.take_of_length_le h, if_pos rfl]
  rfl
theorem take_snoc {t : List Nd} {i : Nat} {x : Nd} (hx : t[i]? = some x) (f : Nd → Bool) : (t.take (i + 1)).filter f = (t.take i).filter f ++ (if f x = true then [x] else []) := by
  rw [List.take_add_one, hx, Option.toList_some, List.filter_append]
  cases h : f x <;> simp [h]
theorem outK_in {t : List Nd} {p : List UInt8} {v : List Nd} {i : Nat} {x : Nd} {b : Bool} (hx : t[i]? = some x) (hw : withinL x.path p = true) : outK t p v (i + 1) b = outK t p v i b := by
  unfold outK
  have h1 : lowN p x = false := by unfold lowN; rw [hw]; rfl
  have h2 : highN p x = false := by unfold highN; rw [hw]; rfl
  rw [take_snoc hx, take_snoc hx, h1, h2]
  simp
theorem outK_low {t : List Nd} {p : List UInt8} {v : List Nd} {i : Nat} {x : Nd} (hx : t[i]? = some x) (hw : withinL x.path p = false) (ho : ordL x.path p < 0) : outK t p v (i + 1) false = outK t p v i false ++ [x] := by
  unfold outK
  have h1 : lowN p x = true := by unfold lowN; rw [hw]; simp [ho]
  rw [take_snoc hx, h1]
  simp
theorem outK_high {t : List Nd} {p : List UInt8} {v : List Nd} {i : Nat} {x : Nd} (hx : t[i]? = some x) (hw : withinL x.path p = false) (ho : ¬ ordL x.path p < 0) : outK t p v (i + 1) true = outK t p v i true ++ [x] := by
  unfold outK
  have h1 : lowN p x = false := by unfold lowN; rw [hw]; simp [ho]
  have h2 : highN p x = true := by unfold highN; rw [hw]; simp [ho]
  rw [take_snoc hx, take_snoc hx, h1, h2]
  simp
/-- The first i lie ahead of the place. -/
def Ahead (t : List Nd) (p : List UInt8) (i : Nat) : Prop := ∀ j x, j < i → t[j]? = some x → ordL x.path p < 0
/-- From i on, none lies ahead of it. -/
def Behind (t : List Nd) (p : List UInt8) (i : Nat) : Prop := ∀ j x, i ≤ j → t[j]? = some x → ¬ ordL x.path p < 0
theorem Ahead.zero (t : List Nd) (p : List UInt8) : Ahead t p 0 := fun j x h => absurd h (Nat.not_lt_zero _)
theorem Ahead.succ {t : List Nd} {p : List UInt8} {i : Nat} {x : Nd} (h : Ahead t p i) (hx : t[i]? = some x) (ho : ordL x.path p < 0) : Ahead t p (i + 1) := fun j y hj hy => by
  rcases Nat.lt_or_ge j i with e | e
  · exact h j y e hy
  · have : j = i := by omega
    subst this
    rw [hx] at hy
    cases hy
    exact ho
theorem Behind.succ {t : List Nd} {p : List UInt8} {i : Nat} (h : Behind t p i) : Behind t p (i + 1) := fun j x hj hx => h j x (by omega) hx
theorem Behind.last {t : List Nd} {p : List UInt8} {i : Nat} (h : t.length ≤ i) : Behind t p i := fun j x hj hx => by
  rw [List.getElem?_eq_none (by omega)] at hx
  cases hx
theorem Behind.of {t : List Nd} {p : List UInt8} {i : Nat} {x : Nd} (hs : Sorted t) (hx : t[i]? = some x) (ho : ¬ ordL x.path p < 0) : Behind t p i := fun j y hj hy hc => by
  rcases Nat.lt_or_ge i j with e | e
  · obtain ⟨hi', rfl⟩ := List.getElem?_eq_some_iff.1 hx
    obtain ⟨hj', rfl⟩ := List.getElem?_eq_some_iff.1 hy
    have h1 : lt t[i] t[j] := List.pairwise_iff_getElem.1 hs i j hi' hj' e
    exact ho (ord_lt h1 hc)
  · have : j = i := by omega
    subst this
    rw [hx] at hy
    cases hy
    exact ho hc
/-- The value is written. -/
theorem outK_flip {t : List Nd} {p : List UInt8} {v : List Nd} {i : Nat} (h : Ahead t p i) : outK t p v i true = outK t p v i false ++ v.map (placeN p) := by
  unfold outK
  have e : (t.take i).filter (highN p) = [] := by
    rw [List.filter_eq_nil_iff]
    intro x hx
    obtain ⟨j, hj⟩ := List.mem_iff_getElem?.1 hx
    rw [List.getElem?_take] at hj
    split at hj
    · rename_i hji
      have := h j x hji hj
      unfold highN
      simp [this]
    · cases hj
  rw [e, if_pos rfl, if_neg (by simp), List.append_nil, List.append_nil]
theorem outK_len (t : List Nd) (p : List UInt8) (v : List Nd) (i : Nat) (b : Bool) : (outK t p v i b).length ≤ 2 * t.length + v.length := by
  unfold outK
  have h1 := List.length_filter_le (lowN p) (t.take i)
  have h2 := List.length_filter_le (highN p) (t.take i)
  have h3 : (t.take i).length ≤ t.length := by rw [List.length_take]; omega
  cases b
  · rw [if_neg (by simp), List.append_nil]
    omega
  · rw [if_pos rfl, List.length_append, List.length_append, List.length_map]
    omega
/-- What stands first in a value has no path; what follows has one. -/
theorem val_at {v : List Nd} (h : rightV v = true) {k : Nat} {x : Nd} (hx : v[k]? = some x) : (k = 0 → x.path = []) ∧ (k ≠ 0 → x.path ≠ []) := by
  cases v with
  | nil => simp at hx
  | cons a r =>
    unfold rightV at h
    simp only [Bool.and_eq_true, Bool.or_eq_true, decide_eq_true_eq] at h
    obtain ⟨⟨⟨h1, _⟩, _⟩, h2⟩ := h
    cases k with
    | zero =>
      simp at hx
      subst hx
      exact ⟨fun _ => h1, fun h => absurd rfl h⟩
    | succ k =>
      rw [List.getElem?_cons_succ] at hx
      refine ⟨fun h => by omega, fun _ => ?_⟩
      rcases h2 with h2 | ⟨_, h2⟩
      · rw [h2] at hx; simp at hx
      · exact path_ne (((tree_iff r).1 h2).path x (List.mem_of_getElem? hx))
theorem val_len {v : List Nd} (h : rightV v = true) : v.length ≤ 1000 := by
  cases v with
  | nil => simp
  | cons a r =>
    unfold rightV at h
    simp only [Bool.and_eq_true, Bool.or_eq_true, decide_eq_true_eq] at h
    rw [List.length_cons]
    omega
/-- What is written of the value after k rounds. -/
def valK (p : List UInt8) (v : List Nd) (k : Nat) : List Nd := (v.take k).map (placeN p)
theorem valK_succ {p : List UInt8} {v : List Nd} {k : Nat} {x : Nd} (hx : v[k]? = some x) : valK p v (k + 1) = valK p v k ++ [placeN p x] := by
  unfold valK
  rw [List.take_add_one, hx, Option.toList_some, List.map_append, List.map_singleton]
theorem valK_end {p : List UInt8} {v : List Nd} {k : Nat} (h : v.length ≤ k) : valK p v k = v.map (placeN p) := by
  unfold valK
  rw [List.take_of_length_le h]
/-- The first k keep to paths. -/
def PathsK (p : List UInt8) (v : List Nd) (k : Nat) : Prop := ∀ j x, j < k → v[j]? = some x → pathL (place p x.path) = true
theorem PathsK.zero (p : List UInt8) (v : List Nd) : PathsK p v 0 := fun j x h => absurd h (Nat.not_lt_zero _)
theorem PathsK.succ {p : List UInt8} {v : List Nd} {k : Nat} {x : Nd} (h : PathsK p v k) (hx : v[k]? = some x) (ho : pathL (place p x.path) = true) : PathsK p v (k + 1) := fun j y hj hy => by
  rcases Nat.lt_or_ge j k with e | e
  · exact h j y e hy
  · have : j = k := by omega
    subst this
    rw [hx] at hy
    cases hy
    exact ho
theorem paths_all {p : List UInt8} {v : List Nd} {k : Nat} (h : PathsK p v k) (hk : v.length ≤ k) : (v.all fun n => pathL (place p n.path)) = true := by
  rw [List.all_eq_true]
  intro x hx
  obtain ⟨j, hj⟩ := List.mem_iff_getElem?.1 hx
  have := (List.getElem?_eq_some_iff.1 hj).1
  exact h j x (by omega) hj
theorem paths_no {p : List UInt8} {v : List Nd} {k : Nat} {x : Nd} (hx : v[k]? = some x) (ho : pathL (place p x.path) = false) : (v.all fun n => pathL (place p n.path)) = false := by
  rw [← Bool.not_eq_true, List.all_eq_true]
  intro h
  have := h x (List.mem_of_getElem? hx)
  rw [ho] at this
  cases this
end Go.Proofs.YtjkikkpbeceeeaaGreatDoor.TP
