/- Layer 5's records over lists of bytes (no program is read here). -/
import Derived.Test.YtbklnijmalnnoaaDoorQHashPlain
import Derived.Test.YtbklnijmalnnoaaDoorQHashSha
set_option linter.all false
set_option maxRecDepth 100000
set_option maxHeartbeats 25600000
namespace Go.Proofs.YtbklnijmalnnoaaDoor.RP
open Go HP HS

/-- The number in four bytes at a place, the highest first. -/
def num4 (l : List UInt8) (k : Nat) : Nat := (l.getD k 0).toNat * 16777216 + (l.getD (k + 1) 0).toNat * 65536 + (l.getD (k + 2) 0).toNat * 256 + (l.getD (k + 3) 0).toNat
def MaxP : Nat := 1048576
/-- A record. -/
def packL (p : List UInt8) : List UInt8 := be4 p.length ++ be4 (crcL (be4 p.length ++ p)) ++ p
/-- The first record: what is wrong, its payload, what is behind it. -/
def nextL (s : List UInt8) : Nat × List UInt8 × List UInt8 :=
  if s.length < 8 then (50, [], [])
  else if MaxP < num4 s 0 then (32, [], [])
  else if s.length < num4 s 0 + 8 then (50, [], [])
  else if num4 s 4 = crcL (s.take 4 ++ (s.drop 8).take (num4 s 0)) then (0, (s.drop 8).take (num4 s 0), s.drop (8 + num4 s 0))
  else (51, [], [])
/-- Just one. -/
def oneL (s : List UInt8) : Nat × List UInt8 :=
  match nextL s with
  | (0, p, []) => (0, p)
  | (0, _, _ :: _) => (32, [])
  | (e + 1, _, _) => (e + 1, [])
/-- Up to the end: the payloads, where they end, what is wrong. -/
def allGo : Nat → List UInt8 → List (List UInt8) × Nat × Nat
  | 0, _ => ([], 0, 0)
  | f + 1, s =>
    if s = [] then ([], 0, 0)
    else match nextL s with
      | (0, p, r) => (p :: (allGo f r).1, s.length - r.length + (allGo f r).2.1, (allGo f r).2.2)
      | (e + 1, _, _) => ([], 0, e + 1)
def allL (s : List UInt8) : List (List UInt8) × Nat × Nat := allGo s.length s
def joined (l : List (List UInt8)) : List UInt8 := l.flatMap packL

theorem be4_len (n : Nat) : (be4 n).length = 4 := by simp [be4]
theorem be4_is (n : Nat) : be4 n = [UInt8.ofNat (n / 2 ^ 24 % 256), UInt8.ofNat (n / 2 ^ 16 % 256), UInt8.ofNat (n / 2 ^ 8 % 256), UInt8.ofNat (n / 2 ^ 0 % 256)] := rfl
theorem of_byte (n : Nat) (h : n < 256) : (UInt8.ofNat n).toNat = n := by rw [UInt8.toNat_ofNat']; exact Nat.mod_eq_of_lt h
theorem crcL_lt (l : List UInt8) : crcL l < 4294967296 := by
  unfold crcL
  exact Nat.xor_lt_two_pow (n := 32) (crcR_lt l (by decide)) (by decide)
theorem num_at (p : List UInt8) (a b c d : UInt8) (r : List UInt8) (k : Nat) (h : p.length = k) : num4 (p ++ a :: b :: c :: d :: r) k = a.toNat * 16777216 + b.toNat * 65536 + c.toNat * 256 + d.toNat := by
  subst h
  have e : ∀ j, (p ++ a :: b :: c :: d :: r).getD (p.length + j) 0 = (a :: b :: c :: d :: r).getD j 0 := fun j => by
    rw [List.getD_eq_getElem?_getD, List.getD_eq_getElem?_getD, List.getElem?_append_right (by omega), Nat.add_sub_cancel_left]
  have e0 := e 0
  rw [Nat.add_zero] at e0
  unfold num4
  rw [e0, e 1, e 2, e 3]
  rfl
theorem num_be4 (p : List UInt8) (n : Nat) (r : List UInt8) (k : Nat) (hn : n < 4294967296) (h : p.length = k) : num4 (p ++ be4 n ++ r) k = n := by
  rw [be4_is, List.append_assoc]
  refine (num_at p _ _ _ _ r k h).trans ?_
  rw [of_byte _ (Nat.mod_lt _ (by decide)), of_byte _ (Nat.mod_lt _ (by decide)), of_byte _ (Nat.mod_lt _ (by decide)), of_byte _ (Nat.mod_lt _ (by decide))]
  omega
theorem cut_at (s : List UInt8) (k : Nat) (h : k + 4 ≤ s.length) : ∃ a b c d, s = s.take k ++ a :: b :: c :: d :: s.drop (k + 4) := by
  refine ⟨s[k], s[k + 1], s[k + 2], s[k + 3], ?_⟩
  have e : s.drop k = s[k] :: s[k + 1] :: s[k + 2] :: s[k + 3] :: s.drop (k + 4) := by
    rw [List.drop_eq_getElem_cons (by omega), List.drop_eq_getElem_cons (by omega), List.drop_eq_getElem_cons (by omega), List.drop_eq_getElem_cons (by omega)]
  calc s = s.take k ++ s.drop k := (List.take_append_drop k s).symm
    _ = _ := by rw [e]
theorem num_lt (s : List UInt8) (k : Nat) : num4 s k < 4294967296 := by
  unfold num4
  have a := (s.getD k 0).toNat_lt
  have b := (s.getD (k + 1) 0).toNat_lt
  have c := (s.getD (k + 2) 0).toNat_lt
  have d := (s.getD (k + 3) 0).toNat_lt
  omega
theorem be4_bytes (a b c d : UInt8) : be4 (a.toNat * 16777216 + b.toNat * 65536 + c.toNat * 256 + d.toNat) = [a, b, c, d] := by
  have ha := a.toNat_lt
  have hb := b.toNat_lt
  have hc := c.toNat_lt
  have hd := d.toNat_lt
  rw [be4_is]
  have h1 : (a.toNat * 16777216 + b.toNat * 65536 + c.toNat * 256 + d.toNat) / 2 ^ 24 % 256 = a.toNat := by omega
  have h2 : (a.toNat * 16777216 + b.toNat * 65536 + c.toNat * 256 + d.toNat) / 2 ^ 16 % 256 = b.toNat := by omega
  have h3 : (a.toNat * 16777216 + b.toNat * 65536 + c.toNat * 256 + d.toNat) / 2 ^ 8 % 256 = c.toNat := by omega
  have h4 : (a.toNat * 16777216 + b.toNat * 65536 + c.toNat * 256 + d.toNat) / 2 ^ 0 % 256 = d.toNat := by omega
  rw [h1, h2, h3, h4]
  simp
theorem be4_num (s : List UInt8) (k : Nat) (h : k + 4 ≤ s.length) : be4 (num4 s k) = (s.drop k).take 4 := by
  obtain ⟨a, b, c, d, e⟩ := cut_at s k h
  have hk : (s.take k).length = k := by rw [List.length_take]; omega
  have hn := num_at (s.take k) a b c d (s.drop (k + 4)) k hk
  rw [← e] at hn
  rw [hn, be4_bytes]
  have hd : s.drop k = a :: b :: c :: d :: s.drop (k + 4) := by
    have h2 : (s.take k ++ a :: b :: c :: d :: s.drop (k + 4)).drop k = a :: b :: c :: d :: s.drop (k + 4) := by
      rw [List.drop_append_of_le_length (by omega), List.drop_of_length_le (by omega)]
      rfl
    rw [← e] at h2
    exact h2
  rw [hd]
  rfl
theorem pack_len (p : List UInt8) : (packL p).length = p.length + 8 := by
  unfold packL
  rw [List.length_append, List.length_append, be4_len, be4_len]
  omega
/-- A record, and whatever behind it: that one is read. -/
theorem next_pack (p r : List UInt8) (h : p.length ≤ MaxP) : nextL (packL p ++ r) = (0, p, r) := by
  have hM : p.length < 4294967296 := by unfold MaxP at h; omega
  have hl : (packL p ++ r).length = p.length + 8 + r.length := by rw [List.length_append, pack_len]
  have h0 : num4 (packL p ++ r) 0 = p.length := by
    unfold packL
    rw [List.append_assoc, List.append_assoc]
    exact num_be4 [] p.length _ 0 hM rfl
  have h4 : num4 (packL p ++ r) 4 = crcL (be4 p.length ++ p) := by
    unfold packL
    rw [List.append_assoc _ p r]
    exact num_be4 (be4 p.length) _ (p ++ r) 4 (crcL_lt _) (be4_len _)
  have ht : (packL p ++ r).take 4 = be4 p.length := by
    unfold packL
    rw [List.append_assoc, List.append_assoc, List.take_append_of_le_length (by rw [be4_len]; exact Nat.le_refl _), List.take_of_length_le (by rw [be4_len]; exact Nat.le_refl _)]
  have hd : (packL p ++ r).drop 8 = p ++ r := by
    unfold packL
    rw [List.append_assoc _ p r, List.drop_append_of_le_length (by rw [List.length_append, be4_len, be4_len]; exact Nat.le_refl _), List.drop_of_length_le (by rw [List.length_append, be4_len, be4_len]; exact Nat.le_refl _)]
    rfl
  have hd2 : (packL p ++ r).drop (8 + p.length) = r := by
    rw [← List.drop_drop, hd, List.drop_append_of_le_length (Nat.le_refl _), List.drop_of_length_le (Nat.le_refl _)]
    rfl
  have htk : ((packL p ++ r).drop 8).take p.length = p := by
    rw [hd, List.take_append_of_le_length (Nat.le_refl _), List.take_of_length_le (Nat.le_refl _)]
  unfold nextL
  rw [h0, h4, ht, htk, hd2, if_neg (by rw [hl]; omega), if_neg (by omega), if_neg (by rw [hl]; omega), if_pos rfl]
/-- What is read is a record, with what is behind it. -/
theorem next_ok {s p r : List UInt8} (h : nextL s = (0, p, r)) : s = packL p ++ r ∧ p.length ≤ MaxP := by
  unfold nextL at h
  by_cases h1 : s.length < 8
  · rw [if_pos h1] at h; simp at h
  · rw [if_neg h1] at h
    by_cases h2 : MaxP < num4 s 0
    · rw [if_pos h2] at h; simp at h
    · rw [if_neg h2] at h
      by_cases h3 : s.length < num4 s 0 + 8
      · rw [if_pos h3] at h; simp at h
      · rw [if_neg h3] at h
        by_cases h4 : num4 s 4 = crcL (s.take 4 ++ (s.drop 8).take (num4 s 0))
        · rw [if_pos h4] at h
          simp only [Prod.mk.injEq, true_and] at h
          obtain ⟨rfl, rfl⟩ := h
          have hl : ((s.drop 8).take (num4 s 0)).length = num4 s 0 := by rw [List.length_take, List.length_drop]; omega
          refine ⟨?_, by rw [hl]; omega⟩
          unfold packL
          have e0 : be4 (num4 s 0) = s.take 4 := be4_num s 0 (by omega)
          have e4 := be4_num s 4 (by omega)
          rw [hl, e0, ← h4, e4]
          have a1 : s.take 4 ++ s.drop 4 = s := List.take_append_drop 4 s
          have a2 : (s.drop 4).take 4 ++ s.drop 8 = s.drop 4 := by
            have := List.take_append_drop 4 (s.drop 4)
            rw [List.drop_drop] at this
            exact this
          have a3 : (s.drop 8).take (num4 s 0) ++ s.drop (8 + num4 s 0) = s.drop 8 := by
            have := List.take_append_drop (num4 s 0) (s.drop 8)
            rw [List.drop_drop] at this
            exact this
          rw [List.append_assoc, List.append_assoc, a3, a2, a1]
        · rw [if_neg h4] at h; simp at h
theorem pack_ne (p : List UInt8) (r : List UInt8) : packL p ++ r ≠ [] := fun h => by
  have := congrArg List.length h
  rw [List.length_append, pack_len] at this
  simp at this
theorem all_join : ∀ (l : List (List UInt8)) (f : Nat), (joined l).length ≤ f → (∀ p ∈ l, p.length ≤ MaxP) → allGo f (joined l) = (l, (joined l).length, 0)
  | [], 0, _, _ => rfl
  | [], f + 1, _, _ => rfl
  | p :: l, 0, h, _ => by
    unfold joined at h
    rw [List.flatMap_cons, List.length_append, pack_len] at h
    omega
  | p :: l, f + 1, h, hp => by
    have e : joined (p :: l) = packL p ++ joined l := rfl
    rw [e] at h ⊢
    rw [List.length_append, pack_len] at h
    have ih := all_join l f (by omega) (fun q hq => hp q (List.mem_cons_of_mem _ hq))
    rw [allGo, if_neg (pack_ne p _), next_pack p _ (hp p (List.mem_cons_self ..))]
    simp only
    rw [ih, List.length_append]
    simp only [Prod.mk.injEq, true_and, and_true]
    omega
theorem all_ok : ∀ (f : Nat) (s : List UInt8), s.length ≤ f →
    (allGo f s).2.1 ≤ s.length ∧ s.take (allGo f s).2.1 = joined (allGo f s).1 ∧ (∀ p ∈ (allGo f s).1, p.length ≤ MaxP) ∧ ((allGo f s).2.2 = 0 ↔ (allGo f s).2.1 = s.length)
  | 0, s, h => by
    have e : s = [] := List.eq_nil_of_length_eq_zero (by omega)
    subst e
    exact ⟨Nat.le_refl _, rfl, fun p hp => by simp [allGo] at hp, by simp [allGo]⟩
  | f + 1, s, h => by
    rw [allGo]
    by_cases h0 : s = []
    · subst h0
      rw [if_pos rfl]
      exact ⟨Nat.le_refl _, rfl, fun p hp => by simp at hp, by simp⟩
    · rw [if_neg h0]
      obtain ⟨e, p, r, hn⟩ : ∃ e p r, nextL s = (e, p, r) := ⟨_, _, _, rfl⟩
      rw [hn]
      cases e with
      | succ e =>
        have hl : 0 < s.length := List.length_pos_iff.2 h0
        refine ⟨Nat.zero_le _, rfl, fun p hp => by simp at hp, ?_⟩
        simp only [Nat.add_eq_zero_iff, Nat.one_ne_zero, and_false, false_iff]
        omega
      | zero =>
        obtain ⟨hs, hp⟩ := next_ok hn
        have hl : s.length = p.length + 8 + r.length := by rw [hs, List.length_append, pack_len]
        obtain ⟨i1, i2, i3, i4⟩ := all_ok f r (by omega)
        simp only
        refine ⟨by omega, ?_, fun q hq => ?_, ?_⟩
        · show s.take _ = packL p ++ joined _
          rw [← i2, hs, List.length_append, pack_len, show p.length + 8 + r.length - r.length = (packL p).length by rw [pack_len]; omega, List.take_append]
          rw [List.take_of_length_le (by omega), Nat.add_sub_cancel_left]
        · rcases List.mem_cons.1 hq with rfl | hq
          · exact hp
          · exact i3 q hq
        · rw [i4]
          omega
/-- A record that is cut short. -/
theorem next_short (p r : List UInt8) (c : Nat) (h : p.length ≤ MaxP) (hc : c < (packL p).length) : nextL ((packL p ++ r).take c) = (50, [], []) := by
  have hl : ((packL p ++ r).take c).length = c := by
    rw [List.length_take, List.length_append]
    omega
  rw [pack_len] at hc
  unfold nextL
  by_cases h8 : c < 8
  · rw [if_pos (by omega)]
  · have hn : num4 ((packL p ++ r).take c) 0 = p.length := by
      have e : ∀ j, j < 4 → ((packL p ++ r).take c).getD j 0 = (packL p ++ r).getD j 0 := fun j hj => by
        rw [List.getD_eq_getElem?_getD, List.getD_eq_getElem?_getD, List.getElem?_take_of_lt (by omega)]
      unfold num4
      rw [e 0 (by decide), e (0 + 1) (by decide), e (0 + 2) (by decide), e (0 + 3) (by decide)]
      have h0 : num4 (packL p ++ r) 0 = p.length := by
        unfold packL
        rw [List.append_assoc, List.append_assoc]
        exact num_be4 [] p.length _ 0 (by unfold MaxP at h; omega) rfl
      exact h0
    rw [if_neg (by omega), hn, if_neg (by omega), if_pos (by omega)]
/-- Of records that are cut short just those are read that are whole. -/
theorem cut_go : ∀ (l : List (List UInt8)) (f c : Nat), (∀ p ∈ l, p.length ≤ MaxP) → c ≤ (joined l).length → c ≤ f →
    ∃ k, k ≤ l.length ∧ (allGo f ((joined l).take c)).1 = l.take k ∧ (allGo f ((joined l).take c)).2.1 = (joined (l.take k)).length ∧ (∀ p, l[k]? = some p → c < (joined (l.take k)).length + (packL p).length)
  | [], f, c, _, hc, _ => by
    have e : (joined []).take c = [] := by simp [joined]
    rw [e]
    refine ⟨0, Nat.le_refl _, ?_, ?_, fun p hp => by simp at hp⟩
    · cases f <;> rfl
    · cases f <;> rfl
  | p :: l, f, c, hp, hc, hf => by
    have e : joined (p :: l) = packL p ++ joined l := rfl
    have hpp := hp p (List.mem_cons_self ..)
    rw [e] at hc ⊢
    by_cases hlt : c < (packL p).length
    · refine ⟨0, Nat.zero_le _, ?_, ?_, fun q hq => ?_⟩
      · cases f with
        | zero => rfl
        | succ f =>
          rw [allGo]
          split
          · rfl
          · rw [next_short p _ c hpp hlt]
            rfl
      · cases f with
        | zero => rfl
        | succ f =>
          rw [allGo]
          split
          · rfl
          · rw [next_short p _ c hpp hlt]
            rfl
      · simp at hq
        subst hq
        simp only [List.take_zero]
        show c < 0 + _
        omega
    · rw [List.length_append] at hc
      have hcut : (packL p ++ joined l).take c = packL p ++ (joined l).take (c - (packL p).length) := by
        rw [List.take_append, List.take_of_length_le (by omega)]
      cases f with
      | zero =>
        rw [pack_len] at hlt
        omega
      | succ f =>
        obtain ⟨k, hk, h1, h2, h3⟩ := cut_go l f (c - (packL p).length) (fun q hq => hp q (List.mem_cons_of_mem _ hq)) (by omega) (by rw [pack_len]; omega)
        have hal : allGo (f + 1) ((packL p ++ joined l).take c) = (p :: (allGo f ((joined l).take (c - (packL p).length))).1, (packL p).length + (allGo f ((joined l).take (c - (packL p).length))).2.1, (allGo f ((joined l).take (c - (packL p).length))).2.2) := by
          rw [hcut, allGo, if_neg (pack_ne p _), next_pack p _ hpp]
          simp only
          rw [List.length_append, Nat.add_sub_cancel]
        have ej : joined ((p :: l).take (k + 1)) = packL p ++ joined (l.take k) := rfl
        refine ⟨k + 1, by rw [List.length_cons]; omega, by rw [hal, h1]; rfl, by rw [hal, h2, ej, List.length_append], fun q hq => ?_⟩
        rw [List.getElem?_cons_succ] at hq
        have := h3 q hq
        rw [ej, List.length_append]
        omega
theorem crc_one {P v : List UInt8} {a b : UInt8} (hP : 3 ≤ P.length) (h : crcL (P ++ a :: v) = crcL (P ++ b :: v)) : a = b := by
  obtain ⟨x, y, z, e⟩ : ∃ x y z, P = P.take (P.length - 3) ++ [x, y, z] := by
    refine ⟨P[P.length - 3], P[P.length - 2], P[P.length - 1], ?_⟩
    have e : P.drop (P.length - 3) = [P[P.length - 3], P[P.length - 2], P[P.length - 1]] := by
      rw [List.drop_eq_getElem_cons (by omega), List.drop_eq_getElem_cons (by omega), List.drop_eq_getElem_cons (by omega), List.drop_of_length_le (by omega)]
      simp only [show P.length - 3 + 1 = P.length - 2 by omega, show P.length - 2 + 1 = P.length - 1 by omega]
    rw [← e, List.take_append_drop]
  have e2 : ∀ q : UInt8, P ++ q :: v = P.take (P.length - 3) ++ [x, y, z, q] ++ v := fun q => by
    rw [show P ++ q :: v = (P.take (P.length - 3) ++ [x, y, z]) ++ q :: v by rw [← e]]
    simp
  rw [e2, e2] at h
  exact (crc_turned h).2.2.2
theorem one_cases (s : List UInt8) : (∃ q, oneL s = (0, q) ∧ nextL s = (0, q, [])) ∨ ∃ e, oneL s = (e + 1, []) := by
  unfold oneL
  obtain ⟨e, p, r, hn⟩ : ∃ e p r, nextL s = (e, p, r) := ⟨_, _, _, rfl⟩
  rw [hn]
  cases e with
  | succ e => exact .inr ⟨e, rfl⟩
  | zero =>
    cases r with
    | nil => exact .inl ⟨p, rfl, rfl⟩
    | cons x r => exact .inr ⟨31, rfl⟩
theorem xor_ne {a x : UInt8} (h : x ≠ 0) : a ^^^ x ≠ a := fun e => h (by
  have e2 : a ^^^ (a ^^^ x) = a ^^^ a := by rw [e]
  rw [← UInt8.xor_assoc, UInt8.xor_self, UInt8.zero_xor] at e2
  exact e2)
/-- A record one byte of which is another one is refused. -/
theorem one_turned (p : List UInt8) (k : Nat) (b : UInt8) (h : p.length ≤ MaxP) (hk : k < (packL p).length) (hb : b ≠ (packL p).getD k 0) : ∃ e, oneL ((packL p).set k b) = (e + 1, []) := by
  rcases one_cases ((packL p).set k b) with ⟨q, _, hn⟩ | h1
  · exfalso
    obtain ⟨hs, hq⟩ := next_ok hn
    rw [List.append_nil] at hs
    have hM : p.length < 4294967296 := by unfold MaxP at h; omega
    have hlen : q.length = p.length := by
      have := congrArg List.length hs
      rw [List.length_set, pack_len, pack_len] at this
      omega
    have hget : ∀ j, j ≠ k → (packL p)[j]? = (packL q)[j]? := fun j hj => by
      rw [← hs, List.getElem?_set_ne (by omega)]
    have hkb : (packL q)[k]? = some b := by rw [← hs, List.getElem?_set_self hk]
    have hne : (packL p)[k]? ≠ (packL q)[k]? := fun e => hb (by
      rw [List.getD_eq_getElem?_getD, e, hkb]
      rfl)
    have g1 : ∀ (x : List UInt8) j, j < 4 → (packL x)[j]? = (be4 x.length)[j]? := fun x j hj => by
      unfold packL
      rw [List.append_assoc, List.getElem?_append_left (by rw [be4_len]; exact hj)]
    have g2 : ∀ (x : List UInt8) j, j < 4 → (packL x)[4 + j]? = (be4 (crcL (be4 x.length ++ x)))[j]? := fun x j hj => by
      unfold packL
      rw [List.append_assoc, List.getElem?_append_right (by rw [be4_len]; omega), be4_len, Nat.add_sub_cancel_left, List.getElem?_append_left (by rw [be4_len]; exact hj)]
    have g3 : ∀ (x : List UInt8) j, (packL x)[8 + j]? = x[j]? := fun x j => by
      unfold packL
      rw [List.getElem?_append_right (by rw [List.length_append, be4_len, be4_len]; omega), List.length_append, be4_len, be4_len, Nat.add_sub_cancel_left]
    by_cases h4 : k < 4
    · exact hne (by rw [g1 _ _ h4, g1 _ _ h4, hlen])
    · by_cases h8 : k < 8
      · have hpq : p = q := List.ext_getElem? fun j => by
          have := hget (8 + j) (by omega)
          rw [g3, g3] at this
          exact this
        exact hne (by rw [hpq])
      · obtain ⟨i, rfl⟩ : ∃ i, k = 8 + i := ⟨k - 8, by omega⟩
        rw [g3, g3] at hne
        have hcr : crcL (be4 p.length ++ p) = crcL (be4 q.length ++ q) := by
          have e : be4 (crcL (be4 p.length ++ p)) = be4 (crcL (be4 q.length ++ q)) := List.ext_getElem? fun j => by
            by_cases hj : j < 4
            · have := hget (4 + j) (by omega)
              rw [g2 _ _ hj, g2 _ _ hj] at this
              exact this
            · rw [List.getElem?_eq_none (by rw [be4_len]; omega), List.getElem?_eq_none (by rw [be4_len]; omega)]
          have n1 := num_be4 [] (crcL (be4 p.length ++ p)) [] 0 (crcL_lt _) rfl
          have n2 := num_be4 [] (crcL (be4 q.length ++ q)) [] 0 (crcL_lt _) rfl
          rw [← n1, ← n2, e]
        rw [pack_len] at hk
        have hip : i < p.length := by omega
        have hiq : i < q.length := by omega
        have htake : p.take i = q.take i := List.ext_getElem? fun j => by
          by_cases hj : j < i
          · have := hget (8 + j) (by omega)
            rw [g3, g3] at this
            rw [List.getElem?_take_of_lt hj, List.getElem?_take_of_lt hj, this]
          · rw [List.getElem?_eq_none (by rw [List.length_take]; omega), List.getElem?_eq_none (by rw [List.length_take]; omega)]
        have hdrop : p.drop (i + 1) = q.drop (i + 1) := List.ext_getElem? fun j => by
          have := hget (8 + (i + 1 + j)) (by omega)
          rw [g3, g3] at this
          rw [List.getElem?_drop, List.getElem?_drop, this]
        have ep : p = p.take i ++ p[i] :: p.drop (i + 1) := by rw [← List.drop_eq_getElem_cons hip, List.take_append_drop]
        have eq : q = q.take i ++ q[i] :: q.drop (i + 1) := by rw [← List.drop_eq_getElem_cons hiq, List.take_append_drop]
        refine hne ?_
        rw [List.getElem?_eq_getElem hip, List.getElem?_eq_getElem hiq]
        refine congrArg some (crc_one (P := be4 p.length ++ p.take i) (v := p.drop (i + 1)) (by rw [List.length_append, be4_len]; omega) ?_)
        rw [List.append_assoc, List.append_assoc, ← ep]
        rw [hcr, hlen]
        congr 2
        rw [htake, hdrop]
        exact eq
  · exact h1
end Go.Proofs.YtbklnijmalnnoaaDoor.RP
