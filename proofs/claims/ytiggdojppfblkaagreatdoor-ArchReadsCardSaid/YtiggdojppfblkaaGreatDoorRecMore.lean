/- Layer 5 over lists, continued: what Next and All come to, step by step (no program is read here). -/
import Derived.Test.YtiggdojppfblkaaGreatDoorMg1
namespace Go.Proofs.YtiggdojppfblkaaGreatDoor
open Go
namespace RP
open HP HS
theorem next_cases (s : List UInt8) : (∃ p r, nextL s = (0, p, r)) ∨ ∃ e, nextL s = (e + 1, [], []) ∧ e < 51 := by
  unfold nextL
  by_cases h1 : s.length < 8
  · rw [if_pos h1]; exact .inr ⟨49, rfl, by decide⟩
  · rw [if_neg h1]
    by_cases h2 : MaxP < num4 s 0
    · rw [if_pos h2]; exact .inr ⟨31, rfl, by decide⟩
    · rw [if_neg h2]
      by_cases h3 : s.length < num4 s 0 + 8
      · rw [if_pos h3]; exact .inr ⟨49, rfl, by decide⟩
      · rw [if_neg h3]
        by_cases h4 : num4 s 4 = crcL (s.take 4 ++ (s.drop 8).take (num4 s 0))
        · rw [if_pos h4]; exact .inl ⟨_, _, rfl⟩
        · rw [if_neg h4]; exact .inr ⟨50, rfl, by decide⟩
theorem next_shrinks {s p r : List UInt8} (h : nextL s = (0, p, r)) : s.length = p.length + 8 + r.length := by
  rw [(next_ok h).1, List.length_append, pack_len]
theorem all_fuel : ∀ (f g : Nat) (s : List UInt8), s.length ≤ f → s.length ≤ g → allGo f s = allGo g s
  | 0, 0, _, _, _ => rfl
  | 0, g + 1, s, h, _ => by
    have e : s = [] := List.eq_nil_of_length_eq_zero (by omega)
    subst e
    rfl
  | f + 1, 0, s, _, h => by
    have e : s = [] := List.eq_nil_of_length_eq_zero (by omega)
    subst e
    rfl
  | f + 1, g + 1, s, hf, hg => by
    rw [allGo, allGo]
    by_cases h0 : s = []
    · rw [if_pos h0, if_pos h0]
    · rw [if_neg h0, if_neg h0]
      rcases next_cases s with ⟨p, r, hn⟩ | ⟨e, hn, _⟩
      · have := next_shrinks hn
        rw [hn]
        simp only
        rw [all_fuel f g r (by omega) (by omega)]
      · rw [hn]
theorem all_nil : allL [] = ([], 0, 0) := rfl
theorem all_step {s p r : List UInt8} (h : nextL s = (0, p, r)) : allL s = (p :: (allL r).1, s.length - r.length + (allL r).2.1, (allL r).2.2) := by
  have hs := next_shrinks h
  have h0 : s ≠ [] := fun e => by rw [e] at hs; simp at hs; omega
  unfold allL
  obtain ⟨f, hf⟩ : ∃ f, s.length = f + 1 := ⟨s.length - 1, by omega⟩
  rw [all_fuel s.length (f + 1) s (Nat.le_refl _) (by omega), allGo, if_neg h0, h]
  simp only
  rw [all_fuel f r.length r (by omega) (Nat.le_refl _)]
theorem all_bad {s : List UInt8} {e : Nat} (h0 : s ≠ []) (h : nextL s = (e + 1, [], [])) : allL s = ([], 0, e + 1) := by
  unfold allL
  cases hl : s.length with
  | zero => exact absurd (List.eq_nil_of_length_eq_zero hl) h0
  | succ f => rw [allGo, if_neg h0, h]
end RP
end Go.Proofs.YtiggdojppfblkaaGreatDoor
