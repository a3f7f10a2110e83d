/- Layer 3's answers over lists of bytes: a number's bytes, what is read as a number, what counts; and the plain facts about them (no program is read here). -/
import Derived.Lib.Strings
set_option linter.all false
set_option maxRecDepth 100000
set_option maxHeartbeats 25600000
namespace Go.Proofs.Ytdkfoakmjeealaa.CP
open Go

/-- The bytes of a number. -/
def nm (n : Nat) : List UInt8 := if h : n < 128 then [UInt8.ofNat n] else UInt8.ofNat (n % 128 + 128) :: nm (n / 128)
termination_by n
decreasing_by omega
def numS (n : Int) : List UInt8 := if n < 0 then [] else nm n.toNat
def flagS (b : Bool) : List UInt8 := if b then [1] else [0]
def textS (s : List UInt8) : List UInt8 := nm s.length ++ s
/-- The number that stands ahead, behind k bytes of value v: the value, how many bytes, the error. -/
def rd : Nat → Nat → List UInt8 → Nat × Nat × Nat
  | k, _, [] => (0, 0, if k = 9 then 31 else 30)
  | k, v, b :: r => if k = 9 then (0, 0, 31) else if b.toNat < 128 then (if b = 0 ∧ 0 < k then (0, 0, 31) else (v + b.toNat * 128 ^ k, k + 1, 0)) else rd (k + 1) (v + b.toNat % 128 * 128 ^ k) r
def cnt (l : List UInt8) (most least : Int) : Nat × Nat × Nat :=
  if (rd 0 0 l).2.2 ≠ 0 then (0, 0, (rd 0 0 l).2.2) else if most < ((rd 0 0 l).1 : Nat) then (0, 0, 32)
  else if ((l.length : Int) - ((rd 0 0 l).2.1 : Nat)) / max least 1 < ((rd 0 0 l).1 : Nat) then (0, 0, 30) else rd 0 0 l

theorem nm_lt {n : Nat} (h : n < 128) : nm n = [UInt8.ofNat n] := by rw [nm]; rw [dif_pos h]
theorem nm_ge {n : Nat} (h : 128 ≤ n) : nm n = UInt8.ofNat (n % 128 + 128) :: nm (n / 128) := by rw [nm]; rw [dif_neg (by omega)]
theorem byte_of {n : Nat} (h : n < 256) : (UInt8.ofNat n).toNat = n := by simp [UInt8.toNat_ofNat']; omega
theorem nm_ne (n : Nat) : nm n ≠ [] := by
  by_cases h : n < 128
  · rw [nm_lt h]; simp
  · rw [nm_ge (by omega)]; simp
theorem pow_step {k : Nat} (hk : k < 9) : 128 ^ (9 - k) = 128 ^ (9 - (k + 1)) * 128 := by
  rw [← Nat.pow_succ]
  congr 1
  omega
theorem lt_step {n k : Nat} (hk : k < 9) (h : n < 128 ^ (9 - k)) : n / 128 < 128 ^ (9 - (k + 1)) := by
  rw [pow_step hk] at h
  omega
theorem ge_room {n k : Nat} (hk : k < 9) (hn : 128 ≤ n) (h : n < 128 ^ (9 - k)) : k + 1 < 9 := by
  rcases Nat.lt_or_ge (k + 1) 9 with h1 | h1
  · exact h1
  · have e : 9 - k = 1 := by omega
    rw [e] at h
    omega
theorem sum_step (v n k : Nat) : v + n % 128 * 128 ^ k + n / 128 * 128 ^ (k + 1) = v + n * 128 ^ k := by
  have e := Nat.div_add_mod n 128
  have e2 : n / 128 * 128 ^ (k + 1) = 128 * (n / 128) * 128 ^ k := by
    rw [Nat.pow_succ, Nat.mul_comm (128 ^ k) 128, ← Nat.mul_assoc, Nat.mul_comm (n / 128) 128]
  rw [e2]
  generalize n / 128 = q at e
  generalize n % 128 = r at e
  generalize 128 ^ k = P
  rw [← e, Nat.add_mul]
  omega
theorem nm_length {n : Nat} : ∀ {k : Nat}, k < 9 → n < 128 ^ (9 - k) → (nm n).length + k ≤ 9 := by
  induction n using Nat.strongRecOn with
  | ind n ih =>
    intro k hk h
    by_cases hn : n < 128
    · rw [nm_lt hn]
      simp
      omega
    · rw [nm_ge (by omega)]
      have h1 := ge_room hk (by omega) h
      have := ih (n / 128) (by omega) h1 (lt_step hk h)
      rw [List.length_cons]
      omega
theorem rd_nm {n : Nat} : ∀ {k v : Nat} {r : List UInt8}, k < 9 → n < 128 ^ (9 - k) → (k = 0 ∨ 0 < n) → rd k v (nm n ++ r) = (v + n * 128 ^ k, k + (nm n).length, 0) := by
  induction n using Nat.strongRecOn with
  | ind n ih =>
    intro k v r hk h h0
    by_cases hn : n < 128
    · rw [nm_lt hn, List.singleton_append]
      have e := byte_of (show n < 256 by omega)
      have hz : ¬ (UInt8.ofNat n = 0 ∧ 0 < k) := by
        rintro ⟨hz, hk0⟩
        have := congrArg UInt8.toNat hz
        rw [e] at this
        change n = 0 at this
        omega
      unfold rd
      rw [if_neg (by omega), e, if_pos hn, if_neg hz]
      rfl
    · rw [nm_ge (by omega), List.cons_append]
      have e := byte_of (show n % 128 + 128 < 256 by omega)
      have h1 := ge_room hk (by omega) h
      rw [rd, if_neg (by omega), e, if_neg (by omega), ih (n / 128) (by omega) h1 (lt_step hk h) (.inr (by omega)), List.length_cons, show (n % 128 + 128) % 128 = n % 128 by omega, sum_step]
      simp
      omega
theorem rd_cut {n : Nat} : ∀ {k v c : Nat}, k < 9 → n < 128 ^ (9 - k) → c < (nm n).length → rd k v ((nm n).take c) = (0, 0, 30) := by
  induction n using Nat.strongRecOn with
  | ind n ih =>
    intro k v c hk h hc
    cases c with
    | zero =>
      rw [List.take_zero]
      unfold rd
      rw [if_neg (by omega)]
    | succ c =>
      by_cases hn : n < 128
      · rw [nm_lt hn] at hc
        simp at hc
      · rw [nm_ge (by omega)] at hc ⊢
        rw [List.take_succ_cons]
        have e := byte_of (show n % 128 + 128 < 256 by omega)
        have h1 := ge_room hk (by omega) h
        rw [rd, if_neg (by omega), e, if_neg (by omega)]
        exact ih (n / 128) (by omega) h1 (lt_step hk h) (by simpa using hc)
theorem rd_back : ∀ (l : List UInt8) {k v x w : Nat}, k < 9 → rd k v l = (x, w, 0) → ∃ n, x = v + n * 128 ^ k ∧ w = k + (nm n).length ∧ l.take (nm n).length = nm n ∧ n < 128 ^ (9 - k) ∧ (0 < k → 0 < n)
  | [], k, v, x, w, hk, h => by
    unfold rd at h
    rw [if_neg (by omega)] at h
    simp at h
  | b :: r, k, v, x, w, hk, h => by
    rw [rd, if_neg (by omega)] at h
    have hb := b.toNat_lt
    by_cases hlt : b.toNat < 128
    · rw [if_pos hlt] at h
      by_cases hz : b = 0 ∧ 0 < k
      · rw [if_pos hz] at h
        simp at h
      · rw [if_neg hz] at h
        simp only [Prod.mk.injEq, and_true] at h
        obtain ⟨rfl, rfl⟩ := h
        have e : nm b.toNat = [b] := by rw [nm_lt hlt]; simp
        refine ⟨b.toNat, rfl, by rw [e]; rfl, by rw [e]; rfl, ?_, fun hk0 => ?_⟩
        · rw [pow_step hk]
          have := Nat.pow_pos (n := 9 - (k + 1)) (show 0 < 128 by decide)
          omega
        · rcases Nat.eq_zero_or_pos b.toNat with h0 | h0
          · exact absurd ⟨UInt8.toNat_inj.1 h0, hk0⟩ hz
          · exact h0
    · rw [if_neg hlt] at h
      have h9 : k + 1 < 9 := by
        rcases Nat.lt_or_ge (k + 1) 9 with h1 | h1
        · exact h1
        · have e : k + 1 = 9 := by omega
          rw [e] at h
          cases r <;> simp [rd] at h
      obtain ⟨n, hx, hw, ht, hn, h0⟩ := rd_back r h9 h
      have hn0 := h0 (by omega)
      have e : nm (b.toNat % 128 + n * 128) = b :: nm n := by
        rw [nm_ge (by omega), show (b.toNat % 128 + n * 128) % 128 + 128 = b.toNat by omega, show (b.toNat % 128 + n * 128) / 128 = n by omega]
        simp
      refine ⟨b.toNat % 128 + n * 128, ?_, ?_, ?_, ?_, fun _ => by omega⟩
      · rw [hx, ← sum_step v (b.toNat % 128 + n * 128) k, show (b.toNat % 128 + n * 128) % 128 = b.toNat % 128 by omega, show (b.toNat % 128 + n * 128) / 128 = n by omega]
      · rw [hw, e, List.length_cons]
        omega
      · rw [e, List.length_cons, List.take_succ_cons, ht]
      · rw [pow_step hk]
        omega
/-- A number that is read is written as the bytes that were read. -/
theorem rd_one {l : List UInt8} {x w : Nat} (h : rd 0 0 l = (x, w, 0)) : l.take w = nm x ∧ w = (nm x).length ∧ w ≤ l.length ∧ x < 128 ^ 9 := by
  obtain ⟨n, hx, hw, ht, hn, _⟩ := rd_back l (by decide) h
  rw [Nat.zero_add, Nat.pow_zero, Nat.mul_one] at hx
  rw [Nat.zero_add] at hw
  subst hx
  subst hw
  refine ⟨ht, rfl, ?_, hn⟩
  have := congrArg List.length ht
  rw [List.length_take] at this
  omega
theorem rd_err : ∀ (l : List UInt8) (k v : Nat), (rd k v l).2.2 = 0 ∨ rd k v l = (0, 0, 30) ∨ rd k v l = (0, 0, 31)
  | [], k, v => by
    unfold rd
    by_cases h : k = 9
    · rw [if_pos h]; exact .inr (.inr rfl)
    · rw [if_neg h]; exact .inr (.inl rfl)
  | b :: r, k, v => by
    unfold rd
    by_cases h : k = 9
    · rw [if_pos h]; exact .inr (.inr rfl)
    · rw [if_neg h]
      by_cases hlt : b.toNat < 128
      · rw [if_pos hlt]
        by_cases hz : b = 0 ∧ 0 < k
        · rw [if_pos hz]; exact .inr (.inr rfl)
        · rw [if_neg hz]; exact .inl rfl
      · rw [if_neg hlt]
        exact rd_err r _ _
/-- Three outcomes of what counts. -/
theorem cnt_cases (l : List UInt8) (most least : Int) : (cnt l most least = rd 0 0 l ∧ (rd 0 0 l).2.2 = 0 ∧ ((rd 0 0 l).1 : Int) ≤ most ∧ ((rd 0 0 l).1 : Int) ≤ ((l.length : Int) - ((rd 0 0 l).2.1 : Nat)) / max least 1) ∨ ∃ e, cnt l most least = (0, 0, e) ∧ (e = 30 ∨ e = 31 ∨ e = 32) := by
  unfold cnt
  by_cases h : (rd 0 0 l).2.2 = 0
  · rw [if_neg (by simp [h])]
    by_cases h1 : most < ((rd 0 0 l).1 : Nat)
    · rw [if_pos h1]; exact .inr ⟨32, rfl, by simp⟩
    · rw [if_neg h1]
      by_cases h2 : ((l.length : Int) - ((rd 0 0 l).2.1 : Nat)) / max least 1 < ((rd 0 0 l).1 : Nat)
      · rw [if_pos h2]; exact .inr ⟨30, rfl, by simp⟩
      · rw [if_neg h2]; exact .inl ⟨rfl, h, by omega, by omega⟩
  · rw [if_pos h]
    rcases rd_err l 0 0 with h0 | h0 | h0
    · exact absurd h0 h
    · rw [h0]; exact .inr ⟨30, rfl, by simp⟩
    · rw [h0]; exact .inr ⟨31, rfl, by simp⟩
end Go.Proofs.Ytdkfoakmjeealaa.CP
