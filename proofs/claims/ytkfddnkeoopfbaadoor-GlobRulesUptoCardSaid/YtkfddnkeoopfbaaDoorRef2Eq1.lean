/- Check: the brackets are the same either way. -/
import Derived.Test.YtkfddnkeoopfbaaDoorRef2Check
import Derived.Test.YtkfddnkeoopfbaaDoorGlobMatch
namespace Go.Proofs.YtkfddnkeoopfbaaDoor
open Go.RowKit Go.Lib
namespace RG
open GP LitN RN
def Tail (z : List UInt8) : Prop := z = [] ∨ z.head? = some 47
theorem dec_cut (x : UInt8) (r : List UInt8) : ∃ c, r = c ++ (x :: r).drop (Lib.decodeL (x :: r)).2 ∧ c.length + 1 = (Lib.decodeL (x :: r)).2 ∧ ∀ b ∈ c, 128 ≤ b.toNat := by
  have hw := Lib.decodeL_width (x :: r)
  have hle := Lib.decodeL_le (x :: r) (by simp)
  obtain ⟨j, hj⟩ : ∃ j, (Lib.decodeL (x :: r)).2 = j + 1 := ⟨(Lib.decodeL (x :: r)).2 - 1, by omega⟩
  refine ⟨r.take j, ?_, ?_, ?_⟩
  · rw [hj, List.drop_succ_cons, List.take_append_drop]
  · rw [hj, List.length_take]
    rw [hj, List.length_cons] at hle
    omega
  · intro b hb
    by_cases h0 : j = 0
    · subst h0; simp at hb
    · have hnb : ¬ ((Lib.decodeL (x :: r)).1 = 65533 ∧ (Lib.decodeL (x :: r)).2 = 1) := fun h => by omega
      have hed := Lib.encode_decode (x :: r) (by simp) hnb
      rw [hj, List.take_succ_cons] at hed
      have hr : 128 ≤ ((Lib.decodeL (x :: r)).1 : Int) := by
        by_cases hlt : ((Lib.decodeL (x :: r)).1 : Int) < 128
        · exfalso
          have h1 := congrArg List.length hed
          unfold Lib.encodeRune at h1
          rw [Lib.encodeRuneZ_one (by omega) (by omega)] at h1
          rw [hj, List.length_cons] at hle
          simp only [List.map_cons, List.map_nil, List.length_cons, List.length_nil, List.length_take] at h1
          omega
        · omega
      exact encode_high _ hr b (by rw [hed]; simp [hb])
theorem clR_tail {z : List UInt8} (h : Tail z) (i fr : Nat) : clR z i fr = none := by
  cases z with
  | nil => exact clR_nil i fr
  | cons x r =>
    rcases h with h | h
    · cases h
    · simp only [List.head?_cons, Option.some.injEq] at h
      rw [clR_cons, if_pos h]
theorem clR_skip : ∀ (c z : List UInt8) (i fr : Nat), (∀ b ∈ c, 128 ≤ b.toNat) → clR (c ++ z) i fr = clR z (i + c.length) fr
  | [], z, i, fr, _ => rfl
  | x :: c, z, i, fr, h => by
    have hx := h x (by simp)
    rw [List.cons_append, clR_cons, if_neg (by rintro rfl; simp at hx), if_neg (by rintro rfl; simp at hx), if_neg (by rintro rfl; simp at hx), clR_skip c z _ _ (fun b hb => h b (by simp [hb])), List.length_cons]
    congr 1
    omega
theorem runeL_back (r : List UInt8) : (runeL (92 :: r)).2 = if r = [] then 0 else (Lib.decodeL r).2 + 1 := by
  unfold runeL
  rw [if_pos (show (92 :: r : List UInt8).head? = some 92 from rfl)]
  show (if 0 < (decL r).2 then (decL r).2 + 1 else 0) = _
  unfold decL
  by_cases h : r = []
  · rw [if_pos h, if_pos h]; rfl
  · rw [if_neg h, if_neg h, if_pos (by have := Lib.decodeL_width r; omega)]
theorem runeL_plain {x : UInt8} (r : List UInt8) (h : x ≠ 92) : runeL (x :: r) = Lib.decodeL (x :: r) := by
  unfold runeL decL
  rw [if_neg (by simpa using h), if_neg (by simp)]
theorem clR_rune {v z : List UInt8} (hne : v ≠ []) (h47 : 47 ∉ v) (h93 : v.head? ≠ some 93) (hz : Tail z) (i fr : Nat) :
    ((runeL v).2 = 0 → clR (v ++ z) i fr = none) ∧ ((runeL v).2 ≠ 0 → clR (v ++ z) i fr = clR (v.drop (runeL v).2 ++ z) (i + (runeL v).2) fr) := by
  obtain ⟨x, r, rfl⟩ := List.exists_cons_of_ne_nil hne
  have hx47 : x ≠ 47 := by rintro rfl; simp at h47
  by_cases h92 : x = 92
  · subst h92
    rw [runeL_back]
    cases r with
    | nil =>
      refine ⟨fun _ => ?_, fun h => absurd rfl h⟩
      rw [List.cons_append, List.nil_append, clR_cons, if_neg (by decide), if_pos rfl]
      cases z with
      | nil => rfl
      | cons y z2 =>
        rcases hz with h | h
        · cases h
        · simp only [List.head?_cons, Option.some.injEq] at h
          simp only [h, if_true]
    | cons y r2 =>
      have hy47 : y ≠ 47 := by rintro rfl; simp at h47
      rw [if_neg (by simp)]
      refine ⟨fun h => by omega, fun _ => ?_⟩
      obtain ⟨c, hc, hcl, hch⟩ := dec_cut y r2
      rw [List.drop_succ_cons, List.cons_append, List.cons_append, clR_cons, if_neg (by decide), if_pos rfl]
      simp only [if_neg hy47]
      generalize hR : (y :: r2).drop (Lib.decodeL (y :: r2)).2 = R at hc ⊢
      generalize (Lib.decodeL (y :: r2)).2 = k at hcl ⊢
      rw [hc, List.append_assoc, clR_skip c _ _ _ hch]
      congr 1
      omega
  · rw [runeL_plain r h92]
    have hw := Lib.decodeL_width (x :: r)
    refine ⟨fun h => by omega, fun _ => ?_⟩
    obtain ⟨c, hc, hcl, hch⟩ := dec_cut x r
    have hx93 : x ≠ 93 := by rintro rfl; simp at h93
    rw [List.cons_append, clR_cons, if_neg hx47, if_neg h92, if_neg hx93]
    generalize hR : (x :: r).drop (Lib.decodeL (x :: r)).2 = R at hc ⊢
    generalize (Lib.decodeL (x :: r)).2 = k at hcl ⊢
    rw [hc, List.append_assoc, clR_skip c _ _ _ hch]
    congr 1
    omega
theorem runeL_zero {v : List UInt8} (hne : v ≠ []) (h : (runeL v).2 = 0) : v.head? = some 92 := by
  obtain ⟨x, r, rfl⟩ := List.exists_cons_of_ne_nil hne
  by_cases h92 : x = 92
  · subst h92; rfl
  · rw [runeL_plain r h92] at h
    have := Lib.decodeL_width (x :: r)
    omega
def brE (o : Option (List Sp × List UInt8)) (i n : Nat) : Option Nat := match o with
  | none => none
  | some (_, r) => some (i + (n - r.length))
theorem brE_drop {v : List UInt8} {acc : List Sp} {k i : Nat} (hk : k ≤ v.length) : brE (brR (v.drop k) acc) (i + k) (v.drop k).length = brE (brR (v.drop k) acc) i v.length := by
  unfold brE
  split
  · rfl
  · rename_i sp r hr
    have h := brGo_rest _ _ _ _ _ hr
    rw [List.length_drop] at h ⊢
    congr 1
    omega
theorem clR_br {z : List UInt8} (hz : Tail z) : ∀ (n : Nat) (v : List UInt8) (acc : List Sp) (i fr : Nat), v.length ≤ n → 47 ∉ v → (acc = [] ↔ i = fr) → fr ≤ i → clR (v ++ z) i fr = brE (brR v acc) i v.length
  | 0, v, acc, i, fr, h, _, _, _ => by
    have : v = [] := List.eq_nil_of_length_eq_zero (by omega)
    subst this
    rw [brR_nil, List.nil_append, clR_tail hz]
    rfl
  | n + 1, v, acc, i, fr, h, h47, hacc, hfr => by
    by_cases hne : v = []
    · subst hne
      rw [brR_nil, List.nil_append, clR_tail hz]
      rfl
    · by_cases h93 : v.head? = some 93
      · rw [brR_end h93]
        obtain ⟨x, r, rfl⟩ := List.exists_cons_of_ne_nil hne
        simp only [List.head?_cons, Option.some.injEq] at h93
        subst h93
        rw [List.cons_append, clR_cons, if_neg (by decide), if_neg (by decide), if_pos rfl]
        by_cases ha : acc = []
        · rw [if_pos ha, if_pos (hacc.1 ha)]
          rfl
        · rw [if_neg ha, if_neg (fun e => ha (hacc.2 e))]
          simp [brE]
      · have hrl := runeL_le v
        have hvl : 0 < v.length := List.length_pos_iff.2 hne
        obtain ⟨c0, c1⟩ := clR_rune hne h47 h93 hz i fr
        have step : ∀ k sp, 1 ≤ k → k ≤ v.length → clR (v ++ z) i fr = clR (v.drop k ++ z) (i + k) fr → clR (v ++ z) i fr = brE (brR (v.drop k) (acc ++ [sp])) i v.length := by
          intro k sp hk1 hk2 he
          rw [he, clR_br hz n (v.drop k) (acc ++ [sp]) (i + k) fr (by rw [List.length_drop]; omega) (fun e => h47 (List.mem_of_mem_drop e)) ⟨fun e => by simp at e, fun e => by omega⟩ (by omega), brE_drop hk2]
        rw [brR_step hne h93]
        by_cases hm : (runeL v).2 = 0
        · have h92 := runeL_zero hne hm
          have hs : (spanL v).2 = 0 := by
            unfold spanL
            rw [hm, List.drop_zero, if_neg (by rw [h92]; simp)]
          rw [if_pos hs, c0 hm]
          rfl
        · have e1 := c1 hm
          by_cases h45 : (v.drop (runeL v).2).head? = some 45
          · obtain ⟨v2, hv2⟩ : ∃ v2, v.drop (runeL v).2 = 45 :: v2 := by
              cases hd : v.drop (runeL v).2 with
              | nil => rw [hd] at h45; cases h45
              | cons y v2 =>
                rw [hd] at h45
                simp only [List.head?_cons, Option.some.injEq] at h45
                subst h45
                exact ⟨v2, rfl⟩
            by_cases hend : v2 = [] ∨ v2.head? = some 93
            · have hs : spanL v = (((runeL v).1, (runeL v).1), (runeL v).2) := by
                unfold spanL
                rw [if_pos h45, hv2]
                exact if_pos hend
              rw [hs, if_neg hm]
              exact step _ _ (by omega) hrl e1
            · have hv2n : v2 ≠ [] := fun e => hend (.inl e)
              have hv293 : v2.head? ≠ some 93 := fun e => hend (.inr e)
              have h47b : 47 ∉ v2 := fun e => h47 (List.mem_of_mem_drop (i := (runeL v).2) (by rw [hv2]; simp [e]))
              rw [hv2, List.cons_append, clR_cons, if_neg (by decide), if_neg (by decide), if_neg (by decide)] at e1
              obtain ⟨d0, d1⟩ := clR_rune hv2n h47b hv293 hz (i + (runeL v).2 + 1) fr
              by_cases hm2 : (runeL v2).2 = 0
              · have hs : (spanL v).2 = 0 := by
                  unfold spanL
                  rw [if_pos h45, hv2]
                  rw [if_neg (show ¬ ((45 :: v2 : List UInt8).tail = [] ∨ (45 :: v2 : List UInt8).tail.head? = some 93) from hend)]
                  rw [if_pos (show (runeL (45 :: v2 : List UInt8).tail).2 = 0 from hm2)]
                rw [if_pos hs, e1, d0 hm2]
                rfl
              · have hs : spanL v = (((runeL v).1, (runeL v2).1), (runeL v).2 + 1 + (runeL v2).2) := by
                  unfold spanL
                  rw [if_pos h45, hv2]
                  rw [if_neg (show ¬ ((45 :: v2 : List UInt8).tail = [] ∨ (45 :: v2 : List UInt8).tail.head? = some 93) from hend)]
                  rw [if_neg (show ¬ (runeL (45 :: v2 : List UInt8).tail).2 = 0 from hm2)]
                  rfl
                have hv2d : v.drop ((runeL v).2 + 1 + (runeL v2).2) = v2.drop (runeL v2).2 := by
                  rw [Nat.add_assoc, ← List.drop_drop, hv2, Nat.add_comm 1, List.drop_succ_cons]
                have hl2 := runeL_le v2
                have hlen : v2.length + 1 + (runeL v).2 = v.length := by
                  have := congrArg List.length hv2
                  rw [List.length_drop, List.length_cons] at this
                  omega
                rw [hs, if_neg (by show (runeL v).2 + 1 + (runeL v2).2 ≠ 0; omega)]
                refine step _ _ (by show 1 ≤ (runeL v).2 + 1 + (runeL v2).2; omega) (by show (runeL v).2 + 1 + (runeL v2).2 ≤ v.length; omega) ?_
                show _ = clR (v.drop ((runeL v).2 + 1 + (runeL v2).2) ++ z) (i + ((runeL v).2 + 1 + (runeL v2).2)) fr
                rw [e1, d1 hm2, hv2d]
                congr 1
                omega
          · have hs : spanL v = (((runeL v).1, (runeL v).1), (runeL v).2) := by
              unfold spanL
              rw [if_neg h45]
            rw [hs, if_neg hm]
            exact step _ _ (by omega) hrl e1
end RG
end Go.Proofs.YtkfddnkeoopfbaaDoor
namespace Go.Proofs.YtkfddnkeoopfbaaDoor
open Go.RowKit Go.Lib
namespace RG
open GP LitN RN
theorem drop_one {l y : List UInt8} {x : UInt8} {a : Nat} (h : l.drop a = x :: y) : l.drop (a + 1) = y := by
  rw [← List.drop_drop, h]
  rfl
theorem clL_br {l u z : List UInt8} {a : Nat} (hz : Tail z) (h47 : 47 ∉ u) (h : l.drop a = 91 :: (u ++ z)) :
    clL l a = match brL (91 :: u) with
      | none => none
      | some (_, k) => some (a + k - 1) := by
  have hd := drop_one h
  by_cases h33 : u.head? = some 33
  · obtain ⟨u2, rfl⟩ : ∃ u2, u = 33 :: u2 := by
      cases u with
      | nil => cases h33
      | cons y u2 => simp only [List.head?_cons, Option.some.injEq] at h33; subst h33; exact ⟨u2, rfl⟩
    have hf : clF l a = a + 2 := by unfold clF; rw [hd]; rfl
    have hd2 : l.drop (a + 2) = u2 ++ z := drop_one (a := a + 1) hd
    have hb : brL (91 :: 33 :: u2) = match brR u2 [] with
      | none => none
      | some (sp, rest) => some (.set true sp, (91 :: 33 :: u2).length - rest.length + 1) := rfl
    unfold clL
    rw [hf, hd2, clR_br hz u2.length u2 [] (a + 2) (a + 2) (Nat.le_refl _) (fun e => h47 (by simp [e])) (by simp) (Nat.le_refl _), hb]
    unfold brE
    cases hr : brR u2 [] with
    | none => rfl
    | some p =>
      have hg := brGo_rest _ _ _ _ _ hr
      simp only [List.length_cons, Option.some.injEq]
      omega
  · have hf : clF l a = a + 1 := by
      unfold clF
      rw [hd, if_neg]
      intro e
      cases u with
      | nil =>
        rw [List.nil_append] at e
        rcases hz with hz | hz
        · subst hz; cases e
        · rw [hz] at e; simp at e
      | cons y u2 => exact h33 e
    have hb : brL (91 :: u) = match brR u [] with
      | none => none
      | some (sp, rest) => some (.set false sp, (91 :: u).length - rest.length + 1) := by
      have hi : brIn (91 :: u) = u := by unfold brIn; exact if_neg h33
      have hs : ((91 :: u : List UInt8).tail.head? == some 33) = false := by simpa using h33
      unfold brL
      rw [hi, hs]
      cases brR u [] <;> rfl
    unfold clL
    rw [hf, hd, clR_br hz u.length u [] (a + 1) (a + 1) (Nat.le_refl _) h47 (by simp) (Nat.le_refl _), hb]
    unfold brE
    cases hr : brR u [] with
    | none => rfl
    | some p =>
      have hg := brGo_rest _ _ _ _ _ hr
      simp only [List.length_cons, Option.some.injEq]
      omega
theorem ckG_skip : ∀ (c y : List UInt8) (l : List UInt8) (a m : Nat), l.drop a = c ++ y → (∀ b ∈ c, 128 ≤ b.toNat) → ckG (c.length + m) l a true = ckG m l (a + c.length) true
  | [], y, l, a, m, _, _ => by simp
  | x :: c, y, l, a, m, h, hc => by
    have hx := hc x (by simp)
    have e : (x :: c).length + m = (c.length + m) + 1 := by simp; omega
    rw [e, ckG, h, List.cons_append]
    simp only []
    rw [if_neg (by rintro rfl; simp at hx), if_neg (by rintro rfl; simp at hx), if_neg (by rintro rfl; simp at hx), ckG_skip c y l (a + 1) m (drop_one h) (fun b hb => hc b (by simp [hb]))]
    congr 1
    simp
    omega
theorem skip_more {c y l : List UInt8} {a n : Nat} (h : l.drop a = c ++ y) (hc : ∀ b ∈ c, 128 ≤ b.toNat) (hn : l.length < a + n) : ∃ m, l.length < a + c.length + m ∧ ckG n l a true = ckG m l (a + c.length) true := by
  have hl := congrArg List.length h
  rw [List.length_drop, List.length_append] at hl
  obtain ⟨m, rfl⟩ : ∃ m, n = c.length + m := ⟨n - c.length, by omega⟩
  exact ⟨m, by omega, ckG_skip c y l a m h hc⟩
def ElStep (l : List UInt8) (a m : Nat) (b : Bool) (o : Option (El × Nat)) : Prop := match o with
  | none => ckG (m + 1) l a b = some a
  | some (_, k) => ∃ m', l.length < a + k + m' ∧ ckG (m + 1) l a b = ckG m' l (a + k) true
theorem el_step {l u z : List UInt8} {a m : Nat} (b : Bool) (hne : u ≠ []) (hz : Tail z) (h47 : 47 ∉ u) (h : l.drop a = u ++ z) (hm : l.length < a + (m + 1)) : ElStep l a m b (elL u) := by
  obtain ⟨x, r, rfl⟩ := List.exists_cons_of_ne_nil hne
  rw [List.cons_append] at h
  have hx47 : x ≠ 47 := by rintro rfl; simp at h47
  have h47r : 47 ∉ r := fun e => h47 (by simp [e])
  have hd := drop_one h
  by_cases h42 : x = 42
  · subst h42
    exact ⟨m, by omega, by rw [ckG, h]; rfl⟩
  · by_cases h63 : x = 63
    · subst h63
      exact ⟨m, by omega, by rw [ckG, h]; rfl⟩
    · by_cases h91 : x = 91
      · subst h91
        have he : elL (91 :: r) = brL (91 :: r) := rfl
        rw [he]
        have hc := clL_br hz h47r h
        unfold ElStep
        cases hb : brL (91 :: r) with
        | none =>
          rw [hb] at hc
          simp only [] at hc
          show ckG (m + 1) l a b = some a
          rw [ckG, h]
          simp only []
          rw [if_neg (by decide), if_neg (by decide), if_pos trivial, hc]
        | some p =>
          obtain ⟨e, k⟩ := p
          have hk := brL_le (by simp) hb
          rw [hb] at hc
          simp only [] at hc
          refine ⟨m, by omega, ?_⟩
          rw [ckG, h]
          simp only []
          rw [if_neg (by decide), if_neg (by decide), if_pos trivial, hc]
          simp only []
          congr 1
          omega
      · have he : elL (x :: r) = if (runeL (x :: r)).2 = 0 then none else some (.set false [((runeL (x :: r)).1, (runeL (x :: r)).1)], (runeL (x :: r)).2) := by
          unfold elL
          rw [if_neg (by simpa using h42), if_neg (by simpa using h63), if_neg (by simpa using h91)]
        rw [he]
        by_cases h92 : x = 92
        · subst h92
          rw [runeL_back]
          cases r with
          | nil =>
            rw [if_pos (by rfl)]
            show ckG (m + 1) l a b = some a
            rw [ckG, h]
            simp only [List.nil_append]
            rw [if_neg (by decide), if_pos trivial, if_pos (show z = [] ∨ z.head? = some 47 from hz)]
          | cons y r2 =>
            have hy47 : y ≠ 47 := by rintro rfl; simp at h47
            rw [if_neg (by simp), if_neg (by simp)]
            obtain ⟨c, hc, hcl, hch⟩ := dec_cut y r2
            have hd2 : l.drop (a + 2) = r2 ++ z := drop_one (a := a + 1) hd
            rw [hc, List.append_assoc] at hd2
            obtain ⟨m', h1, h2⟩ := skip_more (n := m) hd2 hch (by omega)
            refine ⟨m', by omega, ?_⟩
            rw [ckG, h]
            simp only []
            rw [if_neg (by decide), if_pos trivial, if_neg (by simpa using hy47), h2]
            congr 1
            omega
        · rw [runeL_plain r h92]
          have hw := Lib.decodeL_width (x :: r)
          rw [if_neg (by omega)]
          obtain ⟨c, hc, hcl, hch⟩ := dec_cut x r
          have hd1 := hd
          generalize hR : (x :: r).drop (Lib.decodeL (x :: r)).2 = R at hc
          rw [hc, List.append_assoc] at hd1
          obtain ⟨m', h1, h2⟩ := skip_more (n := m) hd1 hch (by omega)
          refine ⟨m', by omega, ?_⟩
          rw [ckG, h]
          simp only []
          rw [if_neg hx47, if_neg h92, if_neg h91, h2]
          congr 1
          omega
def PtStep (l : List UInt8) (a n : Nat) (b : Bool) (u : List UInt8) (rel : Nat) (o : Except Nat (List El)) : Prop := match o with
  | .error k => ∃ j, k = rel + j ∧ j < u.length ∧ ckG n l a b = some (a + j)
  | .ok _ => ∃ n', l.length < a + u.length + n' ∧ ckG n l a b = ckG n' l (a + u.length) (if u = [] then b else true)
theorem pt_step {l z : List UInt8} (hz : Tail z) : ∀ (q : Nat) (u : List UInt8) (a n rel : Nat) (b : Bool) (acc : List El), u.length ≤ q → 47 ∉ u → l.drop a = u ++ z → l.length < a + n → PtStep l a n b u rel (ptR u rel acc)
  | 0, u, a, n, rel, b, acc, h, _, _, hn => by
    have : u = [] := List.eq_nil_of_length_eq_zero (by omega)
    subst this
    rw [ptR_nil]
    exact ⟨n, hn, rfl⟩
  | q + 1, u, a, n, rel, b, acc, h, h47, hd, hn => by
    by_cases hne : u = []
    · subst hne
      rw [ptR_nil]
      exact ⟨n, hn, rfl⟩
    · have hul : 0 < u.length := List.length_pos_iff.2 hne
      have hdl := congrArg List.length hd
      rw [List.length_drop, List.length_append] at hdl
      obtain ⟨m, rfl⟩ : ∃ m, n = m + 1 := ⟨n - 1, by omega⟩
      have hs := el_step b hne hz h47 hd hn
      rw [ptR_step hne]
      cases he : elL u with
      | none =>
        rw [he] at hs
        exact ⟨0, rfl, hul, hs⟩
      | some p =>
        obtain ⟨e, k⟩ := p
        rw [he] at hs
        obtain ⟨m', h1, h2⟩ := hs
        have hk := elL_le hne he
        have hd2 : l.drop (a + k) = u.drop k ++ z := by rw [← List.drop_drop, hd, List.drop_append_of_le_length hk.2]
        have ih := pt_step hz q (u.drop k) (a + k) m' (rel + k) true (acc ++ [e]) (by rw [List.length_drop]; omega) (fun x => h47 (List.mem_of_mem_drop x)) hd2 h1
        show PtStep l a (m + 1) b u rel (ptR (u.drop k) (rel + k) (acc ++ [e]))
        unfold PtStep at ih ⊢
        cases hp : ptR (u.drop k) (rel + k) (acc ++ [e]) with
        | error f =>
          rw [hp] at ih
          obtain ⟨j, hj1, hj2, hj3⟩ := ih
          rw [List.length_drop] at hj2
          exact ⟨k + j, by omega, by omega, by rw [h2, hj3]; congr 1; omega⟩
        | ok es =>
          rw [hp] at ih
          obtain ⟨n', hn1, hn2⟩ := ih
          rw [List.length_drop] at hn1 hn2
          have hif : (if u.drop k = [] then true else true) = true := by split <;> rfl
          rw [hif] at hn2
          refine ⟨n', by omega, ?_⟩
          rw [h2, hn2, if_neg hne]
          congr 1
          omega
theorem cut_first : ∀ l : List UInt8, ∃ t z, l = t ++ z ∧ 47 ∉ t ∧ ((z = [] ∧ NP.cutOn l = [t]) ∨ ∃ r, z = 47 :: r ∧ NP.cutOn l = t :: NP.cutOn r)
  | [] => ⟨[], [], rfl, by simp, .inl ⟨rfl, rfl⟩⟩
  | x :: l => by
    by_cases hx : x = 47
    · subst hx
      exact ⟨[], 47 :: l, rfl, by simp, .inr ⟨l, rfl, by rw [NP.cutOn, if_pos rfl]⟩⟩
    · obtain ⟨t, z, h1, h2, h3⟩ := cut_first l
      refine ⟨x :: t, z, by rw [h1]; rfl, by simp [Ne.symm hx, h2], ?_⟩
      rcases h3 with ⟨h3, h4⟩ | ⟨r, h3, h4⟩
      · exact .inl ⟨h3, by rw [NP.cutOn, if_neg hx, h4]⟩
      · exact .inr ⟨r, h3, by rw [NP.cutOn, if_neg hx, h4]⟩
def psE (n : Nat) (o : Except Nat (List Pt)) : Option Nat := match o with
  | .error k => some (min k (n - 1))
  | .ok _ => none
theorem ps_step {l : List UInt8} : ∀ (q : Nat) (r : List UInt8) (a n : Nat) (acc : List Pt), r.length ≤ q → r ≠ [] → l.drop a = r → l.length < a + n → ckG n l a false = psE l.length (psR (NP.cutOn r) a acc)
  | 0, r, _, _, _, h, hne, _, _ => absurd (List.eq_nil_of_length_eq_zero (by omega)) hne
  | q + 1, r, a, n, acc, h, hne, hd, hn => by
    have hrl : 0 < r.length := List.length_pos_iff.2 hne
    have hdl := congrArg List.length hd
    rw [List.length_drop] at hdl
    obtain ⟨t, z, h1, h47, h3⟩ := cut_first r
    have hz : Tail z := by
      rcases h3 with ⟨h3, _⟩ | ⟨r2, h3, _⟩
      · exact .inl h3
      · exact .inr (by rw [h3]; rfl)
    have hd1 : l.drop a = t ++ z := by rw [hd, h1]
    obtain ⟨ts, hts⟩ : ∃ ts, NP.cutOn r = t :: ts := by
      rcases h3 with ⟨_, h4⟩ | ⟨r2, _, h4⟩ <;> exact ⟨_, h4⟩
    rw [hts, psR]
    by_cases ht : t = []
    · subst ht
      have hp : ptL [] = .error 0 := rfl
      rw [hp]
      rcases h3 with ⟨h3, _⟩ | ⟨r2, h3, _⟩
      · subst h3; exact absurd h1 hne
      · rw [h3, List.nil_append] at hd1
        obtain ⟨m, rfl⟩ : ∃ m, n = m + 1 := ⟨n - 1, by omega⟩
        rw [ckG, hd1]
        simp only []
        rw [if_pos trivial, if_pos (.inl (by first | rfl | trivial))]
        show some a = some (min (a + 0) (l.length - 1))
        congr 1
        omega
    · have htl : 0 < t.length := List.length_pos_iff.2 ht
      have hlt : a + t.length + z.length = l.length := by
        have := congrArg List.length hd1
        rw [List.length_drop, List.length_append] at this
        omega
      have hs := pt_step hz t.length t a n 0 false [] (Nat.le_refl _) h47 hd1 hn
      have key : ∀ p, (∃ n', l.length < a + t.length + n' ∧ ckG n l a false = ckG n' l (a + t.length) (if t = [] then false else true)) → ckG n l a false = psE l.length (psR ts (a + (t.length + 1)) (acc ++ [p])) := by
        rintro p ⟨n', hn1, hn2⟩
        rw [if_neg ht] at hn2
        rw [hn2]
        have hdt : l.drop (a + t.length) = z := by rw [← List.drop_drop, hd1, List.drop_append_of_le_length (Nat.le_refl _), List.drop_length, List.nil_append]
        obtain ⟨m, rfl⟩ : ∃ m, n' = m + 1 := ⟨n' - 1, by omega⟩
        rcases h3 with ⟨h3, h4⟩ | ⟨r2, h3, h4⟩
        · have : ts = [] := by rw [h4] at hts; simpa using hts.symm
          subst this
          rw [ckG, hdt, h3]
          rfl
        · have : ts = NP.cutOn r2 := by rw [h4] at hts; simpa using hts.symm
          subst this
          rw [ckG, hdt, h3]
          simp only []
          rw [if_pos trivial]
          rw [h3] at hdt hlt
          rw [List.length_cons] at hlt
          by_cases hr2 : r2 = []
          · subst hr2
            rw [if_pos (.inr rfl)]
            show some (a + t.length) = some (min (a + (t.length + 1) + 0) (l.length - 1))
            rw [List.length_nil] at hlt
            congr 1
            omega
          · rw [if_neg (by rintro (e | e); cases e; exact hr2 e)]
            have hd2 := drop_one hdt
            have := congrArg List.length h1
            rw [List.length_append, h3, List.length_cons] at this
            exact ps_step q r2 (a + t.length + 1) m (acc ++ [p]) (by omega) hr2 hd2 (by omega)
      unfold ptL
      rw [if_neg ht]
      by_cases h2 : t = [42, 42]
      · rw [if_pos h2]
        subst h2
        exact key .stars hs
      · rw [if_neg h2]
        unfold PtStep at hs
        cases hp : ptR t 0 [] with
        | error k =>
          rw [hp] at hs
          obtain ⟨j, hj1, hj2, hj3⟩ := hs
          rw [hj3]
          show some (a + j) = some (min (a + k) (l.length - 1))
          congr 1
          omega
        | ok es =>
          rw [hp] at hs
          exact key (.one es) hs
/-- Check answers as the document says. -/
theorem chk_eq (l : List UInt8) : rchkL l = GH.chkL l := by
  unfold rchkL GH.chkL patL
  by_cases h0 : l = [] ∨ 400 < l.length
  · rw [if_pos h0, if_pos h0]
  · rw [if_neg h0, if_neg h0]
    cases hs : spR l 0 with
    | some k => rfl
    | none =>
      have hne : l ≠ [] := fun e => h0 (.inl e)
      have h := ps_step l.length l 0 (l.length + 1) [] (Nat.le_refl _) hne rfl (by omega)
      simp only []
      rw [h]
      cases hp : psR (NP.cutOn l) 0 [] with
      | error k => rfl
      | ok ps => rfl
end RG
end Go.Proofs.YtkfddnkeoopfbaaDoor
