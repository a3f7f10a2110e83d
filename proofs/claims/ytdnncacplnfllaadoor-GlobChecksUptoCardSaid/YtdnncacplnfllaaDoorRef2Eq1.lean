/- Check: the brackets are the same either way. -/
import Derived.Test.YtdnncacplnfllaaDoorRef2Check
namespace Go.Proofs.YtdnncacplnfllaaDoor
open Go.RowKit Go.Lib
namespace RG
open GP LitN RN
def Tail (z : List UInt8) : Prop := z = [] ∨ z.head? = some 47
theorem dec_cut (x : UInt8) (r : List UInt8) : ∃ c, r = c ++ (x :: r).drop (Lib.decodeL (x :: r)).2 ∧ c.length + 1 = (Lib.decodeL (x :: r)).2 ∧ ∀ b ∈ c, 128 ≤ b.toNat := by
  have hw := Lib.decodeL_width (x :: r)
  have hle := Lib.decodeL_le (x :: r) (by simp)
  obtain ⟨j, hj⟩ : ∃ j, (Lib.decodeL (x :: r)).2 = j + 1 := ⟨(Lib.decodeL (x :: r)).2 - 1, by omega⟩
  refine ⟨r.take j, ?_, ?_, ?_⟩
  · rw [hj, List.drop_succ_cons, List.take_append_drop]
  · rw [hj, List.length_take]
    rw [hj, List.length_cons] at hle
    omega
  · intro b hb
    by_cases h0 : j = 0
    · subst h0; simp at hb
    · have hnb : ¬ ((Lib.decodeL (x :: r)).1 = 65533 ∧ (Lib.decodeL (x :: r)).2 = 1) := fun h => by omega
      have hed := Lib.encode_decode (x :: r) (by simp) hnb
      rw [hj, List.take_succ_cons] at hed
      have hr : 128 ≤ ((Lib.decodeL (x :: r)).1 : Int) := by
        by_cases hlt : ((Lib.decodeL (x :: r)).1 : Int) < 128
        · exfalso
          have h1 := congrArg List.length hed
          unfold Lib.encodeRune at h1
          rw [Lib.encodeRuneZ_one (by omega) (by omega)] at h1
          rw [hj, List.length_cons] at hle
          simp only [List.map_cons, List.map_nil, List.length_cons, List.length_nil, List.length_take] at h1
          omega
        · omega
      exact encode_high _ hr b (by rw [hed]; simp [hb])
theorem clR_tail {z : List UInt8} (h : Tail z) (i fr : Nat) : clR z i fr = none := by
  cases z with
  | nil => exact clR_nil i fr
  | cons x r =>
    rcases h with h | h
    · cases h
    · simp only [List.head?_cons, Option.some.injEq] at h
      rw [clR_cons, if_pos h]
theorem clR_skip : ∀ (c z : List UInt8) (i fr : Nat), (∀ b ∈ c, 128 ≤ b.toNat) → clR (c ++ z) i fr = clR z (i + c.length) fr
  | [], z, i, fr, _ => rfl
  | x :: c, z, i, fr, h => by
    have hx := h x (by simp)
    rw [List.cons_append, clR_cons, if_neg (by rintro rfl; simp at hx), if_neg (by rintro rfl; simp at hx), if_neg (by rintro rfl; simp at hx), clR_skip c z _ _ (fun b hb => h b (by simp [hb])), List.length_cons]
    congr 1
    omega
theorem runeL_back (r : List UInt8) : (runeL (92 :: r)).2 = if r = [] then 0 else (Lib.decodeL r).2 + 1 := by
  unfold runeL
  rw [if_pos (show (92 :: r : List UInt8).head? = some 92 from rfl)]
  show (if 0 < (decL r).2 then (decL r).2 + 1 else 0) = _
  unfold decL
  by_cases h : r = []
  · rw [if_pos h, if_pos h]; rfl
  · rw [if_neg h, if_neg h, if_pos (by have := Lib.decodeL_width r; omega)]
theorem runeL_plain {x : UInt8} (r : List UInt8) (h : x ≠ 92) : runeL (x :: r) = Lib.decodeL (x :: r) := by
  unfold runeL decL
  rw [if_neg (by simpa using h), if_neg (by simp)]
theorem clR_rune {v z : List UInt8} (hne : v ≠ []) (h47 : 47 ∉ v) (h93 : v.head? ≠ some 93) (hz : Tail z) (i fr : Nat) :
    ((runeL v).2 = 0 → clR (v ++ z) i fr = none) ∧ ((runeL v).2 ≠ 0 → clR (v ++ z) i fr = clR (v.drop (runeL v).2 ++ z) (i + (runeL v).2) fr) := by
  obtain ⟨x, r, rfl⟩ := List.exists_cons_of_ne_nil hne
  have hx47 : x ≠ 47 := by rintro rfl; simp at h47
  by_cases h92 : x = 92
  · subst h92
    rw [runeL_back]
    cases r with
    | nil =>
      refine ⟨fun _ => ?_, fun h => absurd rfl h⟩
      rw [List.cons_append, List.nil_append, clR_cons, if_neg (by decide), if_pos rfl]
      cases z with
      | nil => rfl
      | cons y z2 =>
        rcases hz with h | h
        · cases h
        · simp only [List.head?_cons, Option.some.injEq] at h
          simp only [h, if_true]
    | cons y r2 =>
      have hy47 : y ≠ 47 := by rintro rfl; simp at h47
      rw [if_neg (by simp)]
      refine ⟨fun h => by omega, fun _ => ?_⟩
      obtain ⟨c, hc, hcl, hch⟩ := dec_cut y r2
      rw [List.drop_succ_cons, List.cons_append, List.cons_append, clR_cons, if_neg (by decide), if_pos rfl]
      simp only [if_neg hy47]
      generalize hR : (y :: r2).drop (Lib.decodeL (y :: r2)).2 = R at hc ⊢
      generalize (Lib.decodeL (y :: r2)).2 = k at hcl ⊢
      rw [hc, List.append_assoc, clR_skip c _ _ _ hch]
      congr 1
      omega
  · rw [runeL_plain r h92]
    have hw := Lib.decodeL_width (x :: r)
    refine ⟨fun h => by omega, fun _ => ?_⟩
    obtain ⟨c, hc, hcl, hch⟩ := dec_cut x r
    have hx93 : x ≠ 93 := by rintro rfl; simp at h93
    rw [List.cons_append, clR_cons, if_neg hx47, if_neg h92, if_neg hx93]
    generalize hR : (x :: r).drop (Lib.decodeL (x :: r)).2 = R at hc ⊢
    generalize (Lib.decodeL (x :: r)).2 = k at hcl ⊢
    rw [hc, List.append_assoc, clR_skip c _ _ _ hch]
    congr 1
    omega
theorem runeL_zero {v : List UInt8} (hne : v ≠ []) (h : (runeL v).2 = 0) : v.head? = some 92 := by
  obtain ⟨x, r, rfl⟩ := List.exists_cons_of_ne_nil hne
  by_cases h92 : x = 92
  · subst h92; rfl
  · rw [runeL_plain r h92] at h
    have := Lib.decodeL_width (x :: r)
    omega
def brE (o : Option (List Sp × List UInt8)) (i n : Nat) : Option Nat := match o with
  | none => none
  | some (_, r) => some (i + (n - r.length))
theorem brE_drop {v : List UInt8} {acc : List Sp} {k i : Nat} (hk : k ≤ v.length) : brE (brR (v.drop k) acc) (i + k) (v.drop k).length = brE (brR (v.drop k) acc) i v.length := by
  unfold brE
  split
  · rfl
  · rename_i sp r hr
    have h := brGo_rest _ _ _ _ _ hr
    rw [List.length_drop] at h ⊢
    congr 1
    omega
theorem clR_br {z : List UInt8} (hz : Tail z) : ∀ (n : Nat) (v : List UInt8) (acc : List Sp) (i fr : Nat), v.length ≤ n → 47 ∉ v → (acc = [] ↔ i = fr) → fr ≤ i → clR (v ++ z) i fr = brE (brR v acc) i v.length
  | 0, v, acc, i, fr, h, _, _, _ => by
    have : v = [] := List.eq_nil_of_length_eq_zero (by omega)
    subst this
    rw [brR_nil, List.nil_append, clR_tail hz]
    rfl
  | n + 1, v, acc, i, fr, h, h47, hacc, hfr => by
    by_cases hne : v = []
    · subst hne
      rw [brR_nil, List.nil_append, clR_tail hz]
      rfl
    · by_cases h93 : v.head? = some 93
      · rw [brR_end h93]
        obtain ⟨x, r, rfl⟩ := List.exists_cons_of_ne_nil hne
        simp only [List.head?_cons, Option.some.injEq] at h93
        subst h93
        rw [List.cons_append, clR_cons, if_neg (by decide), if_neg (by decide), if_pos rfl]
        by_cases ha : acc = []
        · rw [if_pos ha, if_pos (hacc.1 ha)]
          rfl
        · rw [if_neg ha, if_neg (fun e => ha (hacc.2 e))]
          simp [brE]
      · have hrl := runeL_le v
        have hvl : 0 < v.length := List.length_pos_iff.2 hne
        obtain ⟨c0, c1⟩ := clR_rune hne h47 h93 hz i fr
        have step : ∀ k sp, 1 ≤ k → k ≤ v.length → clR (v ++ z) i fr = clR (v.drop k ++ z) (i + k) fr → clR (v ++ z) i fr = brE (brR (v.drop k) (acc ++ [sp])) i v.length := by
          intro k sp hk1 hk2 he
          rw [he, clR_br hz n (v.drop k) (acc ++ [sp]) (i + k) fr (by rw [List.length_drop]; omega) (fun e => h47 (List.mem_of_mem_drop e)) ⟨fun e => by simp at e, fun e => by omega⟩ (by omega), brE_drop hk2]
        rw [brR_step hne h93]
        by_cases hm : (runeL v).2 = 0
        · have h92 := runeL_zero hne hm
          have hs : (spanL v).2 = 0 := by
            unfold spanL
            rw [hm, List.drop_zero, if_neg (by rw [h92]; simp)]
          rw [if_pos hs, c0 hm]
          rfl
        · have e1 := c1 hm
          by_cases h45 : (v.drop (runeL v).2).head? = some 45
          · obtain ⟨v2, hv2⟩ : ∃ v2, v.drop (runeL v).2 = 45 :: v2 := by
              cases hd : v.drop (runeL v).2 with
              | nil => rw [hd] at h45; cases h45
              | cons y v2 =>
                rw [hd] at h45
                simp only [List.head?_cons, Option.some.injEq] at h45
                subst h45
                exact ⟨v2, rfl⟩
            by_cases hend : v2 = [] ∨ v2.head? = some 93
            · have hs : spanL v = (((runeL v).1, (runeL v).1), (runeL v).2) := by
                unfold spanL
                rw [if_pos h45, hv2]
                exact if_pos hend
              rw [hs, if_neg hm]
              exact step _ _ (by omega) hrl e1
            · have hv2n : v2 ≠ [] := fun e => hend (.inl e)
              have hv293 : v2.head? ≠ some 93 := fun e => hend (.inr e)
              have h47b : 47 ∉ v2 := fun e => h47 (List.mem_of_mem_drop (i := (runeL v).2) (by rw [hv2]; simp [e]))
              rw [hv2, List.cons_append, clR_cons, if_neg (by decide), if_neg (by decide), if_neg (by decide)] at e1
              obtain ⟨d0, d1⟩ := clR_rune hv2n h47b hv293 hz (i + (runeL v).2 + 1) fr
              by_cases hm2 : (runeL v2).2 = 0
              · have hs : (spanL v).2 = 0 := by
                  unfold spanL
                  rw [if_pos h45, hv2]
                  rw [if_neg (show ¬ ((45 :: v2 : List UInt8).tail = [] ∨ (45 :: v2 : List UInt8).tail.head? = some 93) from hend)]
                  rw [if_pos (show (runeL (45 :: v2 : List UInt8).tail).2 = 0 from hm2)]
                rw [if_pos hs, e1, d0 hm2]
                rfl
              · have hs : spanL v = (((runeL v).1, (runeL v2).1), (runeL v).2 + 1 + (runeL v2).2) := by
                  unfold spanL
                  rw [if_pos h45, hv2]
                  rw [if_neg (show ¬ ((45 :: v2 : List UInt8).tail = [] ∨ (45 :: v2 : List UInt8).tail.head? = some 93) from hend)]
                  rw [if_neg (show ¬ (runeL (45 :: v2 : List UInt8).tail).2 = 0 from hm2)]
                  rfl
                have hv2d : v.drop ((runeL v).2 + 1 + (runeL v2).2) = v2.drop (runeL v2).2 := by
                  rw [Nat.add_assoc, ← List.drop_drop, hv2, Nat.add_comm 1, List.drop_succ_cons]
                have hl2 := runeL_le v2
                have hlen : v2.length + 1 + (runeL v).2 = v.length := by
                  have := congrArg List.length hv2
                  rw [List.length_drop, List.length_cons] at this
                  omega
                rw [hs, if_neg (by show (runeL v).2 + 1 + (runeL v2).2 ≠ 0; omega)]
                refine step _ _ (by show 1 ≤ (runeL v).2 + 1 + (runeL v2).2; omega) (by show (runeL v).2 + 1 + (runeL v2).2 ≤ v.length; omega) ?_
                show _ = clR (v.drop ((runeL v).2 + 1 + (runeL v2).2) ++ z) (i + ((runeL v).2 + 1 + (runeL v2).2)) fr
                rw [e1, d1 hm2, hv2d]
                congr 1
                omega
          · have hs : spanL v = (((runeL v).1, (runeL v).1), (runeL v).2) := by
              unfold spanL
              rw [if_neg h45]
            rw [hs, if_neg hm]
            exact step _ _ (by omega) hrl e1
end RG
end Go.Proofs.YtdnncacplnfllaaDoor
