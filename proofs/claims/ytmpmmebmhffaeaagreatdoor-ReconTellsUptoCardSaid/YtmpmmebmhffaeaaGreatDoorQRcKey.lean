/- Layer 12 over lists: what is sorted and made compact is the names, each once, in their order (no program is read here). -/
import Derived.Test.YtmpmmebmhffaeaaGreatDoorQRcA
import Derived.Lib.SlicesCompact
import Derived.Sort.KeysCollected
set_option linter.all false
set_option maxRecDepth 100000
set_option maxHeartbeats 25600000
namespace Go.Proofs.YtmpmmebmhffaeaaGreatDoor
open Go Go.Lib
namespace RC
open TP

theorem lexB_lt : ∀ {a b : List UInt8}, lexB a b = true ↔ a < b
  | a, [] => by
    constructor
    · intro h; cases a <;> simp [lexB] at h
    · intro h; exact absurd h (List.not_lt_nil a)
  | [], y :: ys => by simp [lexB]
  | x :: xs, y :: ys => by
    have e : lexB (x :: xs) (y :: ys) = (decide (x < y) || (decide (x = y) && lexB xs ys)) := by conv => lhs; unfold lexB
    rw [List.cons_lt_cons_iff, ← lexB_lt (a := xs), e]
    simp only [Bool.or_eq_true, Bool.and_eq_true, decide_eq_true_eq]
theorem leB_iff (a b : List UInt8) : leB a b = true ↔ a = b ∨ lexB a b = true := by
  have h : leB a b = true ↔ lexB b a = false := by
    unfold leB
    rw [decide_eq_true_eq, ← Bool.not_eq_true, lexB_lt]
    exact List.not_lt.symm
  rw [h]
  constructor
  · intro h1
    by_cases e : a = b
    · exact .inl e
    · exact .inr (lex_total h1 (fun e2 => e e2.symm))
  · rintro (rfl | h1)
    · exact lex_irr a
    · cases h2 : lexB b a with
      | false => rfl
      | true =>
        have := lex_trans h1 h2
        rw [lex_irr] at this
        cases this
theorem compact_facts (l : List (List UInt8)) (hs : l.Pairwise (fun a b => leB a b = true)) : ∀ m, m ≤ l.length → SortedK (compactUpTo l.toArray m) ∧ (∀ z, z ∈ compactUpTo l.toArray m ↔ ∃ j, j < m ∧ l[j]? = some z)
  | 0, _ => ⟨by unfold compactUpTo SortedK; simp, fun z => by unfold compactUpTo; simp⟩
  | m + 1, hm => by
    obtain ⟨ih1, ih2⟩ := compact_facts l hs m (by omega)
    have hml : m < l.length := by omega
    have em : l.toArray[m]! = l[m] := by simp [getElem!_pos, hml]
    rw [compactUpTo_succ]
    by_cases hk : keeps l.toArray m = true
    · rw [hk, if_pos rfl, em]
      refine ⟨List.pairwise_append.2 ⟨ih1, List.pairwise_singleton _ _, fun z hz y hy => ?_⟩, fun z => ?_⟩
      · rw [List.mem_singleton.1 hy]
        obtain ⟨j, hj, ej⟩ := (ih2 z).1 hz
        have hpos : 0 < m := by omega
        have em1 : l.toArray[m - 1]! = l[m - 1] := by simp [getElem!_pos, show m - 1 < l.length by omega]
        have hne : l[m] ≠ l[m - 1] := by
          unfold keeps at hk
          rw [decide_eq_true_eq, em, em1] at hk
          exact hk.resolve_left (by omega)
        have hp := List.pairwise_iff_getElem.1 hs
        have h1 : lexB l[m - 1] l[m] = true := ((leB_iff _ _).1 (hp (m - 1) m (by omega) hml (by omega))).resolve_left (fun e => hne e.symm)
        obtain ⟨hjl, ej⟩ := List.getElem?_eq_some_iff.1 ej
        by_cases e : j = m - 1
        · subst e
          rw [← ej]
          exact h1
        · rcases (leB_iff _ _).1 (hp j (m - 1) hjl (by omega) (by omega)) with h2 | h2
          · rw [← ej, h2]; exact h1
          · rw [← ej]; exact lex_trans h2 h1
      · rw [List.mem_append, ih2 z, List.mem_singleton]
        constructor
        · rintro (⟨j, hj, e⟩ | rfl)
          · exact ⟨j, by omega, e⟩
          · exact ⟨m, by omega, List.getElem?_eq_getElem hml⟩
        · rintro ⟨j, hj, e⟩
          by_cases h2 : j = m
          · subst h2
            rw [List.getElem?_eq_getElem hml] at e
            injection e with e
            exact .inr e.symm
          · exact .inl ⟨j, by omega, e⟩
    · rw [Bool.not_eq_true] at hk
      rw [hk, if_neg (by simp), List.append_nil]
      refine ⟨ih1, fun z => ?_⟩
      rw [ih2 z]
      constructor
      · rintro ⟨j, hj, e⟩; exact ⟨j, by omega, e⟩
      · rintro ⟨j, hj, e⟩
        by_cases h2 : j = m
        · subst h2
          unfold keeps at hk
          rw [decide_eq_false_iff_not] at hk
          have hpos : 0 < j := Nat.pos_of_ne_zero (fun e0 => hk (.inl e0))
          have em1 : l.toArray[j - 1]! = l[j - 1] := by simp [getElem!_pos, show j - 1 < l.length by omega]
          have he : l[j] = l[j - 1] := Classical.byContradiction fun hne => hk (.inr (by rw [em, em1]; exact hne))
          rw [List.getElem?_eq_getElem hml, he] at e
          exact ⟨j - 1, by omega, by rw [List.getElem?_eq_getElem (by omega)]; exact e⟩
        · exact ⟨j, by omega, e⟩
/-- Sorted and made compact: the names. -/
theorem ord_sort (ss ns : List (List UInt8)) (h : ∀ x, x ∈ ss ↔ x ∈ ns) : Lib.compact (ss.mergeSort fun x y => decide (x ≤ y)) = ordK ns := by
  have tr : ∀ a b c : List UInt8, leB a b = true → leB b c = true → leB a c = true := fun a b c h1 h2 => by simp only [leB, decide_eq_true_eq] at *; exact List.le_trans h1 h2
  have to : ∀ a b : List UInt8, (leB a b || leB b a) = true := fun a b => by simp only [leB, Bool.or_eq_true, decide_eq_true_eq]; exact List.le_total a b
  obtain ⟨f1, f2⟩ := compact_facts (ss.mergeSort leB) (List.pairwise_mergeSort tr to ss) _ (Nat.le_refl _)
  refine sortedK_ext f1 (sorted_ordK ns) fun z => ?_
  rw [mem_ordK, ← h z]
  refine (f2 z).trans ?_
  rw [← (List.mergeSort_perm ss leB).mem_iff, List.mem_iff_getElem?]
  constructor
  · rintro ⟨j, _, e⟩; exact ⟨j, e⟩
  · rintro ⟨j, e⟩; exact ⟨j, (List.getElem?_eq_some_iff.1 e).1, e⟩
theorem mem_keys (v : List Nd) (k : List UInt8) : k ∈ keysL v ↔ subL v k ≠ [] := by
  cases v with
  | nil => simp [keysL, subL]
  | cons x r =>
    show k ∈ r.map _ ↔ r.filter _ ≠ []
    rw [List.mem_map, ne_eq, List.filter_eq_nil_iff]
    constructor
    · rintro ⟨n, hn, e⟩ h
      exact h n hn (decide_eq_true e)
    · intro h
      refine Classical.byContradiction fun hno => h fun n hn e => hno ⟨n, hn, of_decide_eq_true e⟩
end RC
end Go.Proofs.YtmpmmebmhffaeaaGreatDoor
