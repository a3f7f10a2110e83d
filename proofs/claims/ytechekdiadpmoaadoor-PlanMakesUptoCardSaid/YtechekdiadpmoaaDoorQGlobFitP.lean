/- Layer 2: the walk of fits, over the states that it keeps, is the matching by definition (no program is read here). -/
import Derived.Test.YtechekdiadpmoaaDoorQGlobFits
set_option linter.all false
set_option maxRecDepth 100000
set_option maxHeartbeats 25600000
namespace Go.Proofs.YtechekdiadpmoaaDoor
namespace GF
open GP

/-- From some reached state on the rest matches. -/
def ok (els : List El) (R : List Bool) (q : List Nat) : Bool := (List.range (els.length + 1)).any fun i => bo R i && fit (els.drop i) q
theorem ok_iff {els : List El} {R : List Bool} {q : List Nat} : ok els R q = true ↔ ∃ i, i ≤ els.length ∧ bo R i = true ∧ fit (els.drop i) q = true := by
  unfold ok
  rw [List.any_eq_true]
  constructor
  · rintro ⟨i, h1, h2⟩
    rw [Bool.and_eq_true] at h2
    exact ⟨i, by have := List.mem_range.1 h1; omega, h2.1, h2.2⟩
  · rintro ⟨i, h1, h2, h3⟩
    exact ⟨i, List.mem_range.2 (by omega), by rw [h2, h3]; rfl⟩
theorem ok_eq {els els' : List El} {R R' : List Bool} {q q' : List Nat} (h : ok els R q = true ↔ ok els' R' q' = true) : ok els R q = ok els' R' q' := by
  cases h1 : ok els R q <;> cases h2 : ok els' R' q' <;> simp_all
theorem star_at {els : List El} {i : Nat} (h : isStar els[i]? = true) : els[i]? = some .star := by
  unfold isStar at h
  split at h
  · assumption
  · cases h
theorem drop_star {els : List El} {i : Nat} (h : els[i]? = some .star) : els.drop i = .star :: els.drop (i + 1) := by
  obtain ⟨hl, e⟩ := List.getElem?_eq_some_iff.1 h
  rw [List.drop_eq_getElem_cons hl, e]
theorem fit_star_skip {es : List El} {q : List Nat} (h : fit es q = true) : fit (.star :: es) q = true := by
  show anyTail (fit es) q = true
  cases q with
  | nil => exact h
  | cons r rs =>
    unfold anyTail
    rw [h]
    rfl
theorem bo_set {R : List Bool} {k i : Nat} (h : bo (R.set k true) i = true) : i = k ∨ bo R i = true := by
  unfold bo at h ⊢
  by_cases e : k = i
  · exact .inl e.symm
  · rw [List.getElem?_set_ne e] at h
    exact .inr h
theorem bo_set_mono {R : List Bool} {k i : Nat} (h : bo R i = true) : bo (R.set k true) i = true := by
  unfold bo at h ⊢
  by_cases e : k = i
  · subst e
    by_cases hl : k < R.length
    · rw [List.getElem?_set_self hl]; rfl
    · rw [List.getElem?_eq_none (by omega)] at h; cases h
  · rw [List.getElem?_set_ne e]; exact h
theorem passN_mono (els : List El) (R : List Bool) : ∀ (k i : Nat), bo R i = true → bo (passN els R k) i = true
  | 0, _, h => h
  | k + 1, i, h => by
    unfold passN
    split
    · exact bo_set_mono (passN_mono els R k i h)
    · exact passN_mono els R k i h
theorem passN_ok (els : List El) (R : List Bool) (q : List Nat) : ∀ k, k ≤ els.length → (ok els (passN els R k) q = true ↔ ok els R q = true)
  | 0, _ => Iff.rfl
  | k + 1, hk => by
    have ih := passN_ok els R q k (by omega)
    unfold passN
    split
    · rename_i h
      rw [Bool.and_eq_true] at h
      rw [← ih]
      constructor
      · intro h2
        obtain ⟨i, h3, h4, h5⟩ := ok_iff.1 h2
        rcases bo_set h4 with rfl | h6
        · refine ok_iff.2 ⟨k, by omega, h.2, ?_⟩
          rw [drop_star (star_at h.1)]
          exact fit_star_skip h5
        · exact ok_iff.2 ⟨i, h3, h6, h5⟩
      · intro h2
        obtain ⟨i, h3, h4, h5⟩ := ok_iff.1 h2
        exact ok_iff.2 ⟨i, h3, bo_set_mono h4, h5⟩
    · exact ih
/-- What is behind a reached star is reached. -/
def Closed (els : List El) (R : List Bool) (k : Nat) : Prop := ∀ i, i < k → isStar els[i]? = true → bo R i = true → bo R (i + 1) = true
theorem passN_low (els : List El) (R : List Bool) : ∀ (k i : Nat), k ≤ i → bo (passN els R k) (i + 1) = bo R (i + 1)
  | 0, _, _ => rfl
  | k + 1, i, h => by
    have ih := passN_low els R k i (by omega)
    unfold passN
    split
    · unfold bo at ih ⊢
      rw [List.getElem?_set_ne (by omega)]
      exact ih
    · exact ih
theorem passN_closed (els : List El) (R : List Bool) (hR : R.length = els.length + 1) : ∀ k, k ≤ els.length → Closed els (passN els R k) k
  | 0, _ => fun i hi => by omega
  | k + 1, hk => by
    have ih := passN_closed els R hR k (by omega)
    have hl := passN_length els R k
    intro i hi h1 h2
    unfold passN at h2 ⊢
    split
    · rename_i h
      rw [if_pos h] at h2
      rcases bo_set h2 with rfl | h3
      · omega
      · by_cases e : i = k
        · subst e
          unfold bo
          rw [List.getElem?_set_self (by omega)]
          rfl
        · exact bo_set_mono (ih i (by omega) h1 h3)
    · rename_i h
      rw [if_neg h] at h2
      by_cases e : i = k
      · subst e
        exact absurd (by rw [h1, h2]; rfl) h
      · exact ih i (by omega) h1 h2
theorem bo_take (els : List El) (R : List Bool) (r i : Nat) (hi : i < R.length) : bo (takeN els R r 0) i = takeAt els R r i := by
  unfold bo takeN
  simp [List.range', hi, List.getElem?_range']
theorem fit_cons {els : List El} {i : Nat} {e : El} {r : Nat} {q : List Nat} (h : els[i]? = some e) : fit (els.drop i) (r :: q) = true ↔ (e = .star ∧ (fit (els.drop (i + 1)) (r :: q) = true ∨ fit (els.drop i) q = true)) ∨ (takesL e r = true ∧ fit (els.drop (i + 1)) q = true) := by
  obtain ⟨hl, e1⟩ := List.getElem?_eq_some_iff.1 h
  have hd : els.drop i = e :: els.drop (i + 1) := by rw [List.drop_eq_getElem_cons hl, e1]
  rw [hd]
  cases e with
  | star =>
    show anyTail (fit (els.drop (i + 1))) (r :: q) = true ↔ _
    unfold anyTail
    rw [Bool.or_eq_true]
    simp only [takesL, Bool.false_eq_true, false_and, or_false, true_and]
    exact Iff.rfl
  | set neg sp =>
    show (takesL (.set neg sp) r && fit (els.drop (i + 1)) q) = true ↔ _
    rw [Bool.and_eq_true]
    simp
theorem fit_end {els : List El} {i : Nat} {r : Nat} {q : List Nat} (h : els.length ≤ i) : fit (els.drop i) (r :: q) = false := by
  rw [List.drop_eq_nil_of_le h]
  rfl
theorem take_ok (els : List El) (R : List Bool) (r : Nat) (q : List Nat) (hR : R.length = els.length + 1) (hc : Closed els R els.length) : ok els (takeN els R r 0) q = true ↔ ok els R (r :: q) = true := by
  constructor
  · intro h
    obtain ⟨i, h1, h2, h3⟩ := ok_iff.1 h
    rw [bo_take _ _ _ _ (by omega)] at h2
    unfold takeAt at h2
    rw [Bool.or_eq_true] at h2
    rcases h2 with h2 | h2
    · rw [Bool.and_eq_true] at h2
      have hs := star_at h2.1
      exact ok_iff.2 ⟨i, h1, h2.2, (fit_cons hs).2 (.inl ⟨rfl, .inr h3⟩)⟩
    · cases i with
      | zero => cases h2
      | succ j =>
        simp only [Bool.and_eq_true] at h2
        obtain ⟨e, he⟩ : ∃ e, els[j]? = some e := ⟨els[j]'(by omega), List.getElem?_eq_getElem (by omega)⟩
        rw [he] at h2
        exact ok_iff.2 ⟨j, by omega, h2.1, (fit_cons he).2 (.inr ⟨h2.2, h3⟩)⟩
  · intro h
    obtain ⟨i, h1, h2, h3⟩ := ok_iff.1 h
    -- by how many elements are left
    obtain ⟨n, hn⟩ : ∃ n, els.length - i = n := ⟨_, rfl⟩
    induction n generalizing i with
    | zero =>
      rw [fit_end (by omega)] at h3
      cases h3
    | succ n ih =>
      obtain ⟨e, he⟩ : ∃ e, els[i]? = some e := ⟨els[i]'(by omega), List.getElem?_eq_getElem (by omega)⟩
      rcases (fit_cons he).1 h3 with ⟨rfl, h4 | h4⟩ | ⟨h4, h5⟩
      · exact ih (i + 1) (by omega) (hc i (by omega) (by rw [he]; rfl) h2) h4 (by omega)
      · refine ok_iff.2 ⟨i, h1, ?_, h4⟩
        rw [bo_take _ _ _ _ (by omega)]
        unfold takeAt
        rw [he, h2]
        rfl
      · refine ok_iff.2 ⟨i + 1, by omega, ?_, h5⟩
        rw [bo_take _ _ _ _ (by omega)]
        unfold takeAt
        simp only [h2, he, comesL, h4]
        simp
theorem ok_nil (els : List El) (R : List Bool) (hc : Closed els R els.length) : ok els R [] = true ↔ bo R els.length = true := by
  constructor
  · intro h
    obtain ⟨i, h1, h2, h3⟩ := ok_iff.1 h
    obtain ⟨n, hn⟩ : ∃ n, els.length - i = n := ⟨_, rfl⟩
    induction n generalizing i with
    | zero =>
      obtain rfl : i = els.length := by omega
      exact h2
    | succ n ih =>
      obtain ⟨e, he⟩ : ∃ e, els[i]? = some e := ⟨els[i]'(by omega), List.getElem?_eq_getElem (by omega)⟩
      obtain ⟨hl, e1⟩ := List.getElem?_eq_some_iff.1 he
      have hd : els.drop i = e :: els.drop (i + 1) := by rw [List.drop_eq_getElem_cons hl, e1]
      rw [hd] at h3
      cases e with
      | star => exact ih (i + 1) (by omega) (hc i (by omega) (by rw [he]; rfl) h2) h3 (by omega)
      | set neg sp => cases h3
  · intro h
    refine ok_iff.2 ⟨els.length, Nat.le_refl _, h, ?_⟩
    rw [List.drop_eq_nil_of_le (Nat.le_refl _)]
    rfl
theorem runN_ok (els : List El) : ∀ (rs : List Nat) (R : List Bool), R.length = els.length + 1 → Closed els R els.length → (bo (runN els R rs) els.length = true ↔ ok els R rs = true)
  | [], R, _, hc => (ok_nil els R hc).symm
  | r :: rs, R, hR, hc => by
    have hl : (takeN els R r 0).length = els.length + 1 := by rw [takeN_length _ _ _ _ (Nat.zero_le _), hR]
    show bo (runN els (passN els (takeN els R r 0) els.length) rs) els.length = true ↔ _
    rw [runN_ok els rs _ (by rw [passN_length, hl]) (passN_closed els _ hl _ (Nat.le_refl _)), passN_ok els _ rs _ (Nat.le_refl _), take_ok els R r rs hR hc]
theorem fitsN_eq (els : List El) (rs : List Nat) : fitsN els rs = fit els rs := by
  have hl : (true :: List.replicate els.length false).length = els.length + 1 := by simp
  have h1 := runN_ok els rs (startN els) (by unfold startN; rw [passN_length, hl]) (passN_closed els _ hl _ (Nat.le_refl _))
  have h2 := passN_ok els (true :: List.replicate els.length false) rs _ (Nat.le_refl els.length)
  have h3 : ok els (true :: List.replicate els.length false) rs = true ↔ fit els rs = true := by
    constructor
    · intro h
      obtain ⟨i, _, h4, h5⟩ := ok_iff.1 h
      cases i with
      | zero => exact h5
      | succ i =>
        exfalso
        unfold bo at h4
        rw [List.getElem?_cons_succ, List.getElem?_replicate] at h4
        split at h4 <;> cases h4
    · intro h
      exact ok_iff.2 ⟨0, Nat.zero_le _, rfl, h⟩
  have h4 : fitsN els rs = true ↔ fit els rs = true := h1.trans (h2.trans h3)
  cases h5 : fitsN els rs <;> cases h6 : fit els rs <;> simp_all
end GF
end Go.Proofs.YtechekdiadpmoaaDoor
