/- The document's answer: the first byte that is part of no rune. -/
import Derived.Test.YtdnncacplnfllaaDoorRefName
import Derived.Test.YtdnncacplnfllaaDoorRefParts
import Derived.Test.YtdnncacplnfllaaDoorGlobLitM
namespace Go.Proofs.YtdnncacplnfllaaDoor
open Go.RowKit Go.Lib
namespace RG
open GP LitN RN
def badB (t : List UInt8) : Bool := decide ((Lib.decodeL t).1 = 65533 ∧ (Lib.decodeL t).2 = 1)
theorem width_four (l : List UInt8) : (Lib.decodeL l).2 ≤ 4 := by
  rw [Lib.decodeL_N]
  rcases Lib.decodeN_shape l.length (l.getD 0 0).toNat (l.getD 1 0).toNat (l.getD 2 0).toNat (l.getD 3 0).toNat with ⟨_, e⟩ | ⟨_, _, _, _, e⟩ | ⟨_, _, _, _, _, _, e⟩ | ⟨_, _, _, _, _, _, _, e⟩ | e <;> rw [e] <;> simp
theorem not_bad {t : List UInt8} (h : badB t = false) : ¬ ((Lib.decodeL t).1 = 65533 ∧ (Lib.decodeL t).2 = 1) := of_decide_eq_false h
/-- The two ways to say that no rune begins here. -/
theorem bad_spoilt {t : List UInt8} (hne : t ≠ []) : ((Lib.decodeL t).1 = 65533 ∧ Lib.hasPrefix t [239, 191, 189] = false) ↔ badB t = true := by
  unfold badB
  rw [decide_eq_true_iff]
  constructor
  · rintro ⟨h1, h2⟩
    refine ⟨h1, ?_⟩
    by_cases hb : (Lib.decodeL t).2 = 1
    · exact hb
    · exfalso
      have hed := Lib.encode_decode t hne (fun h => hb h.2)
      rw [h1] at hed
      have e3 : Lib.encodeRune ((65533 : Nat) : Int) = [239, 191, 189] := by decide
      rw [e3] at hed
      have hp : Lib.hasPrefix t [239, 191, 189] = true := by
        unfold Lib.hasPrefix
        rw [hed]
        exact List.isPrefixOf_iff_prefix.2 (List.take_prefix _ _)
      rw [hp] at h2
      cases h2
  · rintro ⟨h1, h2⟩
    refine ⟨h1, ?_⟩
    cases hp : Lib.hasPrefix t [239, 191, 189]
    · rfl
    · exfalso
      unfold Lib.hasPrefix at hp
      obtain ⟨r, rfl⟩ := List.isPrefixOf_iff_prefix.1 hp
      have hd : Lib.decodeL [239, 191, 189] = (65533, 3) := by rw [Lib.decodeL_N]; decide
      rw [decode_app _ r (by simp) (by rw [hd]; simp), hd] at h2
      cases h2
theorem sp_bad {t : List UInt8} (hne : t ≠ []) (h : badB t = true) (a : Nat) : spR t a = some a := by
  rw [spR_step hne, if_pos ((bad_spoilt hne).2 h)]
theorem sp_good {t : List UInt8} (hne : t ≠ []) (h : badB t = false) (a : Nat) : spR t a = spR (t.drop (Lib.decodeL t).2) (a + (Lib.decodeL t).2) := by
  rw [spR_step hne, if_neg (fun e => by rw [(bad_spoilt hne).1 e] at h; cases h)]
theorem valid_good {t : List UInt8} (hne : t ≠ []) (h : Lib.validD t = true) : badB t = false ∧ Lib.validD (t.drop (Lib.decodeL t).2) = true := by
  rw [Lib.validD_step t hne] at h
  split at h
  · cases h
  · rename_i hb
    exact ⟨decide_eq_false hb, h⟩
theorem sp_skip : ∀ (n : Nat) (u t : List UInt8) (a : Nat), u.length ≤ n → Lib.validD u = true → spR (u ++ t) a = spR t (a + u.length)
  | 0, u, t, a, h, _ => by
    have : u = [] := List.eq_nil_of_length_eq_zero (by omega)
    subst this
    rfl
  | n + 1, u, t, a, h, hv => by
    by_cases hne : u = []
    · subst hne; rfl
    · have hw := Lib.decodeL_width u
      have hle := Lib.decodeL_le u hne
      obtain ⟨hb, hv2⟩ := valid_good hne hv
      have hd := decode_app u t hne (not_bad hb)
      have hb2 : badB (u ++ t) = false := by unfold badB; rw [hd]; exact hb
      rw [sp_good (by simp [hne]) hb2, hd, List.drop_append_of_le_length hle, sp_skip n _ t _ (by rw [List.length_drop]; omega) hv2, List.length_drop]
      congr 1
      omega
theorem sp_some : ∀ (n : Nat) (l : List UInt8) (a k : Nat), l.length ≤ n → spR l a = some k → ∃ j, k = a + j ∧ j < l.length ∧ Lib.validD (l.take j) = true ∧ badB (l.drop j) = true
  | 0, l, a, k, h, e => by
    have : l = [] := List.eq_nil_of_length_eq_zero (by omega)
    subst this
    rw [spR_nil] at e
    cases e
  | n + 1, l, a, k, h, e => by
    by_cases hne : l = []
    · subst hne
      rw [spR_nil] at e
      cases e
    · have hl : 0 < l.length := List.length_pos_iff.2 hne
      cases hb : badB l
      · have hw := Lib.decodeL_width l
        have hle := Lib.decodeL_le l hne
        rw [sp_good hne hb] at e
        obtain ⟨j, hj, hjl, hv, hbd⟩ := sp_some n _ _ k (by rw [List.length_drop]; omega) e
        rw [List.length_drop] at hjl
        refine ⟨(Lib.decodeL l).2 + j, by omega, by omega, ?_, by rw [List.drop_drop] at hbd; exact hbd⟩
        have ht : l.take ((Lib.decodeL l).2 + j) = l.take (Lib.decodeL l).2 ++ (l.drop (Lib.decodeL l).2).take j := List.take_add
        have hne2 : l.take (Lib.decodeL l).2 ++ (l.drop (Lib.decodeL l).2).take j ≠ [] := by
          intro e2
          have := congrArg List.length (List.append_eq_nil_iff.1 e2).1
          rw [List.length_take, List.length_nil] at this
          omega
        rw [ht, Lib.validD_step _ hne2, decode_pre l _ hne (not_bad hb), if_neg (not_bad hb), List.drop_append_of_le_length (by rw [List.length_take]; omega), List.drop_of_length_le (by rw [List.length_take]; omega), List.nil_append]
        exact hv
      · rw [sp_bad hne hb] at e
        cases e
        exact ⟨0, rfl, hl, rfl, hb⟩
/-- A rune's beginning: its own bytes are valid; of fewer, none are. -/
theorem good_take {t : List UInt8} (hne : t ≠ []) (h : badB t = false) : Lib.validD (t.take (Lib.decodeL t).2) = true := by
  have hle := Lib.decodeL_le t hne
  have hw := Lib.decodeL_width t
  have hl : 0 < t.length := List.length_pos_iff.2 hne
  have hne2 : t.take (Lib.decodeL t).2 ≠ [] := by
    intro e2
    have := congrArg List.length e2
    rw [List.length_take, List.length_nil] at this
    omega
  have hp := decode_pre t [] hne (not_bad h)
  rw [List.append_nil] at hp
  rw [Lib.validD_step _ hne2, hp, if_neg (not_bad h), List.drop_of_length_le (by rw [List.length_take]; omega)]
  rfl
theorem take_good {t : List UInt8} {n : Nat} (hn : 1 ≤ n) (hne : t ≠ []) (h : Lib.validD (t.take n) = true) : badB t = false := by
  have hl : 0 < t.length := List.length_pos_iff.2 hne
  have hne2 : t.take n ≠ [] := by
    intro e2
    have := congrArg List.length e2
    rw [List.length_take, List.length_nil] at this
    omega
  obtain ⟨hb, _⟩ := valid_good hne2 h
  have hd := decode_app (t.take n) (t.drop n) hne2 (not_bad hb)
  rw [List.take_append_drop] at hd
  unfold badB
  rw [hd]
  exact hb
def badI (l : List UInt8) : Int := match spR l 0 with
  | some k => k
  | none => -1
theorem bad_at {l : List UInt8} {k : Nat} (hk : k < l.length) (hv : Lib.validD (l.take k) = true) (hb : badB (l.drop k) = true) : badI l = k := by
  have hne : l.drop k ≠ [] := by
    intro e
    have := congrArg List.length e
    rw [List.length_drop, List.length_nil] at this
    omega
  have h := sp_skip _ (l.take k) (l.drop k) 0 (Nat.le_refl _) hv
  rw [List.take_append_drop, sp_bad hne hb, List.length_take, Nat.min_eq_left (by omega), Nat.zero_add] at h
  unfold badI
  rw [h]
theorem bad_none {l : List UInt8} (h : ∀ k, k < l.length → ¬ (Lib.validD (l.take k) = true ∧ badB (l.drop k) = true)) : badI l = -1 := by
  unfold badI
  cases hs : spR l 0 with
  | none => rfl
  | some k =>
    obtain ⟨j, _, hj, hv, hb⟩ := sp_some _ l 0 k (Nat.le_refl _) hs
    exact absurd ⟨hv, hb⟩ (h j hj)
end RG
end Go.Proofs.YtdnncacplnfllaaDoor
