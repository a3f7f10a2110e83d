/- Literal as a pattern: what it reads, and what it matches. -/
import Derived.Test.YtkfddnkeoopfbaaDoorGlobLitP
import Derived.Test.YtkfddnkeoopfbaaDoorGlobIgnP
import Derived.Test.YtkfddnkeoopfbaaDoorRefUp
namespace Go.Proofs.YtkfddnkeoopfbaaDoor
open Go.RowKit Go.Lib
namespace LitN
open GP GI
theorem litL_cons (x : UInt8) (l : List UInt8) : litL (x :: l) = (if spB x = true then [92, x] else [x]) ++ litL l := by simp [litL]
theorem litL_ne {l : List UInt8} (h : l ≠ []) : litL l ≠ [] := by
  cases l with
  | nil => exact absurd rfl h
  | cons x l => rw [litL_cons]; split <;> simp
/-- One rune of it: as it is read of the text, and as it is read of the literal. -/
theorem lit_cut (l : List UInt8) (hne : l ≠ []) (hv : Lib.validD l = true) :
    Lib.validD (l.drop (Lib.decodeL l).2) = true ∧ elL (litL l) = some (.set false [((Lib.decodeL l).1, (Lib.decodeL l).1)], (litL (l.take (Lib.decodeL l).2)).length) ∧
    (litL l).drop (litL (l.take (Lib.decodeL l).2)).length = litL (l.drop (Lib.decodeL l).2) ∧ Lib.validD (litL l) = Lib.validD (litL (l.drop (Lib.decodeL l).2)) := by
  obtain ⟨hv2, hed, hvr, hlit⟩ := lit_rune l hne hv
  have hnb : ¬ ((Lib.decodeL l).1 = 65533 ∧ (Lib.decodeL l).2 = 1) := by
    rw [Lib.validD_step l hne] at hv
    split at hv
    · cases hv
    · assumption
  have hle := Lib.decodeL_le l hne
  have hw := Lib.decodeL_width l
  have hs : litL l = litL (l.take (Lib.decodeL l).2) ++ litL (l.drop (Lib.decodeL l).2) := by rw [← litL_app, List.take_append_drop]
  have hdp := decode_pre l (litL (l.drop (Lib.decodeL l).2)) hne hnb
  have hne2 : l.take (Lib.decodeL l).2 ++ litL (l.drop (Lib.decodeL l).2) ≠ [] := by
    intro e
    have := congrArg List.length (List.append_eq_nil_iff.1 e).1
    rw [List.length_take, List.length_nil] at this
    have hl : 0 < l.length := List.length_pos_iff.2 hne
    omega
  have hdrop : (l.take (Lib.decodeL l).2 ++ litL (l.drop (Lib.decodeL l).2)).drop (Lib.decodeL l).2 = litL (l.drop (Lib.decodeL l).2) := by
    rw [List.drop_append_of_le_length (by rw [List.length_take]; omega), List.drop_of_length_le (by rw [List.length_take]; omega)]
    rfl
  have hvp : Lib.validD (l.take (Lib.decodeL l).2 ++ litL (l.drop (Lib.decodeL l).2)) = Lib.validD (litL (l.drop (Lib.decodeL l).2)) := by
    rw [Lib.validD_step _ hne2, hdp, if_neg hnb, hdrop]
  obtain ⟨x, t, rfl⟩ := List.exists_cons_of_ne_nil hne
  by_cases hx : spB x = true
  · have hx2 : x = 42 ∨ x = 63 ∨ x = 91 ∨ x = 92 := of_decide_eq_true hx
    have hx3 : x.toNat < 128 := by rcases hx2 with rfl | rfl | rfl | rfl <;> decide
    have hd := Lib.decodeL_ascii x t hx3
    rw [hd] at hv2 ⊢
    refine ⟨hv2, ?_, ?_, ?_⟩
    · rw [litL_cons, if_pos hx]
      show elL (92 :: x :: litL t) = some (.set false [(x.toNat, x.toNat)], (litL [x]).length)
      have hdt : decL (x :: litL t) = (x.toNat, 1) := by
        unfold decL
        rw [if_neg (by simp), Lib.decodeL_ascii x _ hx3]
      have hr : runeL (92 :: x :: litL t) = (x.toNat, 2) := by
        unfold runeL
        rw [if_pos (show (92 :: x :: litL t).head? = some 92 from rfl)]
        show ((decL (x :: litL t)).1, if 0 < (decL (x :: litL t)).2 then (decL (x :: litL t)).2 + 1 else 0) = _
        rw [hdt]
        rfl
      have hlen : (litL [x]).length = 2 := by rw [litL_cons, if_pos hx]; rfl
      unfold elL
      rw [if_neg (by simp), if_neg (by simp), if_neg (by simp), hr, if_neg (by simp), hlen]
    · show (litL (x :: t)).drop (litL [x]).length = litL t
      have hlen : (litL [x]).length = 2 := by rw [litL_cons, if_pos hx]; rfl
      rw [hlen, litL_cons, if_pos hx]
      rfl
    · rw [litL_cons, if_pos hx]
      show Lib.validD (92 :: x :: litL t) = Lib.validD (litL t)
      rw [Lib.validD_cons _ _ (by decide), Lib.validD_cons _ _ hx3]
  · have hsp : GS.special ((Lib.decodeL (x :: t)).1 : Int) = false := by
      cases h : GS.special ((Lib.decodeL (x :: t)).1 : Int)
      · rfl
      · exfalso
        rw [h] at hlit
        have htk : ∃ y, (x :: t).take (Lib.decodeL (x :: t)).2 = x :: y := by
          obtain ⟨n, hn⟩ : ∃ n, (Lib.decodeL (x :: t)).2 = n + 1 := ⟨(Lib.decodeL (x :: t)).2 - 1, by omega⟩
          rw [hn]
          exact ⟨_, List.take_succ_cons⟩
        obtain ⟨y, hy⟩ := htk
        rw [hy, litL_cons, if_neg hx] at hlit
        simp only [if_true, List.cons_append, List.nil_append, List.cons.injEq] at hlit
        obtain ⟨h1, _⟩ := hlit
        rw [h1] at hx
        exact hx (by decide)
    rw [hsp] at hlit
    simp only [Bool.false_eq_true, if_false, List.nil_append] at hlit
    rw [hlit] at hs ⊢
    have hlt : ((x :: t).take (Lib.decodeL (x :: t)).2).length = (Lib.decodeL (x :: t)).2 := by rw [List.length_take]; omega
    rw [hlt]
    have hhd : (litL (x :: t)).head? = some x := by rw [litL_cons, if_neg hx]; rfl
    have hxn : x ≠ 42 ∧ x ≠ 63 ∧ x ≠ 91 ∧ x ≠ 92 := by
      unfold spB at hx
      simp only [decide_eq_true_eq, not_or] at hx
      exact hx
    refine ⟨hv2, ?_, ?_, ?_⟩
    · have hr : runeL (litL (x :: t)) = Lib.decodeL (x :: t) := by
        unfold runeL decL
        rw [hhd, if_neg (by simpa using hxn.2.2.2), if_neg (litL_ne (by simp)), hs, hdp]
      unfold elL
      rw [hhd, if_neg (by simpa using hxn.1), if_neg (by simpa using hxn.2.1), if_neg (by simpa using hxn.2.2.1), hr, if_neg (by omega)]
    · rw [hs, hdrop]
    · rw [hs, hvp]

def lits (rs : List Nat) : List El := rs.map fun r => .set false [(r, r)]
theorem pt_lit : ∀ (n : Nat) (l : List UInt8) (a : Nat) (acc : List El), l.length ≤ n → Lib.validD l = true → ptR (litL l) a acc = .ok (acc ++ lits (runes l)) ∧ Lib.validD (litL l) = true
  | 0, l, a, acc, h, _ => by
    have : l = [] := List.eq_nil_of_length_eq_zero (by omega)
    subst this
    exact ⟨by show ptR [] a acc = _; rw [ptR_nil]; simp [lits, runes_nil], rfl⟩
  | n + 1, l, a, acc, h, hv => by
    by_cases hne : l = []
    · subst hne
      exact ⟨by show ptR [] a acc = _; rw [ptR_nil]; simp [lits, runes_nil], rfl⟩
    · obtain ⟨hv2, hel, hdr, hvl⟩ := lit_cut l hne hv
      have hw := Lib.decodeL_width l
      have hl : 0 < l.length := List.length_pos_iff.2 hne
      have ih := fun a acc => pt_lit n (l.drop (Lib.decodeL l).2) a acc (by rw [List.length_drop]; omega) hv2
      refine ⟨?_, by rw [hvl]; exact (ih 0 []).2⟩
      rw [ptR_step (litL_ne hne), hel]
      show ptR ((litL l).drop _) _ _ = _
      rw [hdr, (ih _ _).1, runes_step hne]
      simp [lits]
theorem sp_valid : ∀ (n : Nat) (l : List UInt8) (a : Nat), l.length ≤ n → Lib.validD l = true → spR l a = none
  | 0, l, a, h, _ => by
    have : l = [] := List.eq_nil_of_length_eq_zero (by omega)
    subst this
    exact spR_nil a
  | n + 1, l, a, h, hv => by
    by_cases hne : l = []
    · subst hne; exact spR_nil a
    · have hw := Lib.decodeL_width l
      have hl : 0 < l.length := List.length_pos_iff.2 hne
      rw [Lib.validD_step l hne] at hv
      split at hv
      · cases hv
      · rename_i hnb
        have hed := Lib.encode_decode l hne hnb
        rw [spR_step hne, if_neg ?_]
        · exact sp_valid n _ _ (by rw [List.length_drop]; omega) hv
        · rintro ⟨h1, h2⟩
          rw [h1] at hed
          have e3 : Lib.encodeRune ((65533 : Nat) : Int) = [239, 191, 189] := by decide
          rw [e3] at hed
          have hp : Lib.hasPrefix l [239, 191, 189] = true := by
            unfold Lib.hasPrefix
            rw [hed]
            exact List.isPrefixOf_iff_prefix.2 (List.take_prefix _ _)
          rw [hp] at h2
          cases h2
theorem cut_lit : ∀ l : List UInt8, NP.cutOn (litL l) = (NP.cutOn l).map litL
  | [] => rfl
  | x :: l => by
    have ih := cut_lit l
    rw [litL_cons]
    by_cases h47 : x = 47
    · subst h47
      rw [if_neg (by decide)]
      show NP.cutOn (47 :: litL l) = (NP.cutOn (47 :: l)).map litL
      unfold NP.cutOn
      rw [if_pos rfl, if_pos rfl, ih]
      rfl
    · obtain ⟨a, t, e⟩ := List.exists_cons_of_ne_nil (NP.cutOn_ne l)
      have e1 : NP.cutOn (x :: l) = (x :: a) :: t := by
        rw [NP.cutOn, if_neg h47, e]
      have e2 : NP.cutOn (x :: litL l) = (x :: litL a) :: t.map litL := by
        rw [NP.cutOn, if_neg h47, ih, e]
        rfl
      rw [e1, List.map_cons, litL_cons]
      split
      · show NP.cutOn (92 :: x :: litL l) = _
        rw [NP.cutOn, if_neg (by decide), e2]
        rfl
      · exact e2
end LitN
end Go.Proofs.YtkfddnkeoopfbaaDoor
