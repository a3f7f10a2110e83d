/- What a literal matches. -/
import Derived.Test.YtkfddnkeoopfbaaDoorGlobLitM
namespace Go.Proofs.YtkfddnkeoopfbaaDoor
open Go.RowKit Go.Lib
namespace LitN
open GP GI GH
theorem ptL_lit {n : List UInt8} (hne : n ≠ []) (hv : Lib.validD n = true) : ptL (litL n) = .ok (.one (lits (runes n))) := by
  unfold ptL
  rw [if_neg (litL_ne hne), if_neg ?_, (pt_lit n.length n 0 [] (Nat.le_refl _) hv).1]
  · rfl
  · intro e
    obtain ⟨x, t, rfl⟩ := List.exists_cons_of_ne_nil hne
    rw [litL_cons] at e
    split at e
    · simp at e
    · rename_i hx
      simp only [List.cons_append, List.cons.injEq] at e
      rw [e.1] at hx
      exact hx (by decide)
def ones (ls : List (List UInt8)) : List Pt := ls.map fun n => .one (lits (runes n))
theorem ps_lit : ∀ (ls : List (List UInt8)) (a : Nat) (acc : List Pt), (∀ n ∈ ls, n ≠ [] ∧ Lib.validD n = true) → psR (ls.map litL) a acc = .ok (acc ++ ones ls)
  | [], a, acc, _ => by simp [psR, ones]
  | n :: ls, a, acc, h => by
    obtain ⟨h1, h2⟩ := h n (by simp)
    have ih := fun a acc => ps_lit ls a acc (fun x hx => h x (by simp [hx]))
    rw [List.map_cons, psR, ptL_lit h1 h2]
    show psR (ls.map litL) _ _ = _
    rw [ih]
    simp [ones]
theorem parts_ok {p : List UInt8} (hp : NP.pathL p = true) : ∀ n ∈ NP.cutOn p, n ≠ [] ∧ Lib.validD n = true := by
  intro n hn
  unfold NP.pathL at hp
  simp only [Bool.and_eq_true] at hp
  have h2 := hp.2
  rw [NP.split_eq] at h2
  have h3 : NP.nameL n = true := List.all_eq_true.1 h2 n hn
  exact ⟨name_ne h3, name_valid h3⟩
theorem path_ne {p : List UInt8} (hp : NP.pathL p = true) : p ≠ [] := by
  rintro rfl
  exact (parts_ok hp [] (by simp [NP.cutOn])).1 rfl
theorem pat_lit {p : List UInt8} (hp : NP.pathL p = true) (h4 : (litL p).length ≤ 400) : patL (litL p) = .ok (ones (NP.cutOn p)) := by
  have hv := (pt_lit p.length p 0 [] (Nat.le_refl _) (path_valid hp)).2
  unfold patL
  rw [if_neg (by rintro (h | h); exact litL_ne (path_ne hp) h; omega), sp_valid _ _ 0 (Nat.le_refl _) hv, cut_lit]
  simp only [ps_lit _ 0 [] (parts_ok hp), List.nil_append]
theorem fit_lits : ∀ (rs ss : List Nat), fit (lits rs) ss = decide (rs = ss)
  | [], [] => by simp [lits, fit]
  | [], s :: ss => by simp [lits, fit]
  | r :: rs, [] => by simp [lits, fit]
  | r :: rs, s :: ss => by
    have ih := fit_lits rs ss
    have e : lits (r :: rs) = .set false [(r, r)] :: lits rs := rfl
    rw [e]
    show (takesL (.set false [(r, r)]) s && fit (lits rs) ss) = _
    rw [ih]
    have ht : takesL (.set false [(r, r)]) s = decide (r = s) := by
      unfold takesL
      by_cases h : r = s
      · subst h; simp
      · have : ¬ (r ≤ s ∧ s ≤ r) := by omega
        simp [h]
        omega
    rw [ht]
    by_cases h1 : r = s
    · subst h1; simp
    · simp [h1]
theorem runes_inj : ∀ (n : Nat) (l m : List UInt8), l.length ≤ n → Lib.validD l = true → Lib.validD m = true → runes l = runes m → l = m
  | 0, l, m, h, _, _, e => by
    have : l = [] := List.eq_nil_of_length_eq_zero (by omega)
    subst this
    by_cases hm : m = []
    · exact hm.symm
    · rw [runes_step hm, runes_nil] at e
      cases e
  | n + 1, l, m, h, hl, hm, e => by
    by_cases hne : l = []
    · subst hne
      by_cases hmn : m = []
      · exact hmn.symm
      · rw [runes_step hmn, runes_nil] at e
        cases e
    · by_cases hmn : m = []
      · subst hmn
        rw [runes_step hne, runes_nil] at e
        cases e
      · obtain ⟨l1, l2, _, _⟩ := lit_rune l hne hl
        obtain ⟨m1, m2, _, _⟩ := lit_rune m hmn hm
        rw [runes_step hne, runes_step hmn] at e
        simp only [List.cons.injEq] at e
        have hw := Lib.decodeL_width l
        have hlp : 0 < l.length := List.length_pos_iff.2 hne
        have ih := runes_inj n _ _ (by rw [List.length_drop]; omega) l1 m1 e.2
        rw [← List.take_append_drop (Lib.decodeL l).2 l, ← List.take_append_drop (Lib.decodeL m).2 m, ← l2, ← m2, ih, e.1]
theorem mat_ones : ∀ (ls ns : List (List UInt8)), (∀ n ∈ ls, n ≠ [] ∧ Lib.validD n = true) → (∀ n ∈ ns, n ≠ [] ∧ Lib.validD n = true) → mat (ones ls) ns = decide (ls = ns)
  | [], [], _, _ => by simp [ones, mat]
  | [], s :: ss, _, _ => by simp [ones, mat]
  | r :: rs, [], _, _ => by simp [ones, mat]
  | r :: rs, s :: ss, h1, h2 => by
    have ih := mat_ones rs ss (fun n hn => h1 n (by simp [hn])) (fun n hn => h2 n (by simp [hn]))
    show (fitsL (lits (runes r)) s && mat (ones rs) ss) = _
    rw [ih]
    unfold fitsL
    rw [fit_lits]
    by_cases h : r = s
    · subst h; simp
    · have : runes r ≠ runes s := fun e => h (runes_inj _ r s (Nat.le_refl _) (h1 r (by simp)).2 (h2 s (by simp)).2 e)
      simp [h, this]
theorem ones_len (ls : List (List UInt8)) : (ones ls).length = ls.length := by simp [ones]
/-- A path with a slash: its literal matches it alone. -/
theorem mat_many {p q : List UInt8} (hp : NP.pathL p = true) (h4 : (litL p).length ≤ 400) (hs : 47 ∈ p) : matL (litL p) q = decide (q = p) := by
  have hl : (ones (NP.cutOn p)).length ≠ 1 := by
    rw [ones_len, NP.cutOn_length]
    have := List.count_pos_iff.2 hs
    omega
  unfold matL
  rw [pat_lit hp h4]
  show (decide (namesL q ≠ []) && matchL (ones (NP.cutOn p)) (namesL q)) = _
  unfold matchL
  rw [if_neg hl]
  by_cases hq : NP.pathL q = true
  · rw [names_yes hq, mat_ones _ _ (parts_ok hp) (parts_ok hq), decide_eq_true (NP.cutOn_ne q), Bool.true_and]
    by_cases h : q = p
    · subst h; simp
    · have : NP.cutOn p ≠ NP.cutOn q := fun e => h (by rw [← NP.cutOn_join q, ← NP.cutOn_join p, e])
      simp [h, this]
  · have hn : namesL q = [] := by unfold namesL; rw [if_neg hq]
    rw [hn]
    have : q ≠ p := by rintro rfl; exact hq hp
    simp [this]
/-- A path without one: its literal matches what has it as its last name. -/
theorem mat_one {p q : List UInt8} (hp : NP.pathL p = true) (h4 : (litL p).length ≤ 400) (hs : 47 ∉ p) : matL (litL p) q = (NP.pathL q && decide (NP.baseL q = p)) := by
  have hc : NP.cutOn p = [p] := NP.cutOn_none hs
  unfold matL
  rw [pat_lit hp h4]
  show (decide (namesL q ≠ []) && matchL (ones (NP.cutOn p)) (namesL q)) = _
  unfold matchL
  rw [if_pos (by rw [ones_len, hc]; rfl)]
  by_cases hq : NP.pathL q = true
  · have hlo : lastOnly (NP.cutOn q) = [NP.lastL q] := by
      unfold lastOnly
      have hg := RT.last_part q
      obtain ⟨i, hi⟩ : ∃ i, NP.cutOn q = i ++ [NP.lastL q] := by
        rw [List.getLast?_eq_some_iff] at hg
        exact hg
      rw [hi]
      simp
    rw [names_yes hq, hlo, hc, mat_ones _ _ (by rw [← hc]; exact parts_ok hp) (fun n hn => parts_ok hq n (by
      have : n ∈ lastOnly (NP.cutOn q) := by rw [hlo]; exact hn
      exact List.mem_of_mem_drop this)), decide_eq_true (NP.cutOn_ne q), hq]
    unfold NP.baseL
    rw [if_pos hq]
    by_cases h : p = NP.lastL q
    · rw [← h]; simp
    · have h2 : ¬ NP.lastL q = p := fun e => h e.symm
      simp [h, h2]
  · have hn : namesL q = [] := by unfold namesL; rw [if_neg hq]
    rw [hn]
    have : NP.pathL q = false := by simpa using hq
    rw [this]
    simp
end LitN
end Go.Proofs.YtkfddnkeoopfbaaDoor
