/- Layer 4: numbers in words of 32 bits, the least first: their value, and what compares them (no program is read here). -/
import Derived.Test.YtmpmmebmhffaeaaDoorQHashRef5
set_option linter.all false
set_option maxRecDepth 100000
set_option maxHeartbeats 25600000
namespace Go.Proofs.YtmpmmebmhffaeaaDoor
open Go.RowKit Go.Lib
namespace HX
open HS HR

/-- The value of the first n words. -/
def valP (l : List Nat) : Nat → Nat
  | 0 => 0
  | n + 1 => valP l n + wd l n * 4294967296 ^ n
theorem valP_lt (l : List Nat) (hl : ∀ j, wd l j < 4294967296) : ∀ n, valP l n < 4294967296 ^ n
  | 0 => by simp [valP]
  | n + 1 => by
    have ih := valP_lt l hl n
    have h := hl n
    rw [valP, Nat.pow_succ]
    have h2 : wd l n * 4294967296 ^ n ≤ 4294967295 * 4294967296 ^ n := Nat.mul_le_mul_right _ (by omega)
    generalize 4294967296 ^ n = P at *
    omega
theorem gt_val (a b : List Nat) (ha : ∀ j, wd a j < 4294967296) (hb : ∀ j, wd b j < 4294967296) : ∀ n, gtGo a b n = decide (valP b n < valP a n)
  | 0 => by simp [gtGo, valP]
  | n + 1 => by
    have ih := gt_val a b ha hb n
    have la := valP_lt a ha n
    have lb := valP_lt b hb n
    rw [gtGo, valP, valP]
    by_cases h : wd a n = wd b n
    · rw [if_pos h, ih, h]
      simp
    · rw [if_neg h]
      rcases Nat.lt_or_gt_of_ne h with h1 | h1
      · have h2 : wd a n * 4294967296 ^ n + 4294967296 ^ n ≤ wd b n * 4294967296 ^ n := by
          rw [← Nat.succ_mul]
          exact Nat.mul_le_mul_right _ h1
        rw [decide_eq_false (by omega), decide_eq_false (by omega)]
      · have h2 : wd b n * 4294967296 ^ n + 4294967296 ^ n ≤ wd a n * 4294967296 ^ n := by
          rw [← Nat.succ_mul]
          exact Nat.mul_le_mul_right _ h1
        rw [decide_eq_true h1, decide_eq_true (by omega)]
theorem wd_set_same (l : List Nat) (m x : Nat) (h : m < l.length) : wd (l.set m x) m = x := by
  unfold wd
  rw [List.getD_eq_getElem?_getD, List.getElem?_set_self h]
  rfl
theorem wd_set_ne (l : List Nat) (m x j : Nat) (h : m ≠ j) : wd (l.set m x) j = wd l j := by
  unfold wd
  rw [List.getD_eq_getElem?_getD, List.getD_eq_getElem?_getD, List.getElem?_set_ne h]
theorem valP_set_low (l : List Nat) (m x : Nat) : ∀ n, n ≤ m → valP (l.set m x) n = valP l n
  | 0, _ => rfl
  | n + 1, h => by rw [valP, valP, valP_set_low l m x n (by omega), wd_set_ne l m x n (by omega)]
theorem valP_set (l : List Nat) (m x : Nat) (hm : m < l.length) : ∀ n, m < n → valP (l.set m x) n + wd l m * 4294967296 ^ m = valP l n + x * 4294967296 ^ m
  | 0, h => by omega
  | n + 1, h => by
    rw [valP, valP]
    by_cases hn : m = n
    · subst hn
      rw [valP_set_low l m x m (Nat.le_refl _), wd_set_same l m x hm]
      omega
    · have ih := valP_set l m x hm n (by omega)
      rw [wd_set_ne l m x n hn]
      omega
theorem valP_out (l : List Nat) : ∀ (n m : Nat), (∀ j, n ≤ j → wd l j = 0) → n ≤ m → valP l m = valP l n
  | n, 0, _, h => by rw [show n = 0 by omega]
  | n, m + 1, hz, h => by
    by_cases e : n = m + 1
    · rw [e]
    · rw [valP, hz m (by omega), valP_out l n m hz (by omega)]
      omega
theorem valP_len (l : List Nat) (m : Nat) (h : l.length ≤ m) : valP l m = valP l l.length := valP_out l l.length m (fun j hj => wd_out hj) h
theorem wd_zero (n j : Nat) : wd (List.replicate n 0) j = 0 := by
  unfold wd
  rw [List.getD_eq_getElem?_getD, List.getElem?_replicate]
  split <;> rfl
theorem valP_zero (l : List Nat) (h : ∀ j, wd l j = 0) : ∀ n, valP l n = 0
  | 0 => rfl
  | n + 1 => by rw [valP, valP_zero l h n, h n]; omega
theorem wd_snoc (l : List Nat) (x : Nat) : wd (l ++ [x]) l.length = x := by
  unfold wd
  rw [List.getD_eq_getElem?_getD, List.getElem?_append_right (Nat.le_refl _), Nat.sub_self]
  rfl
theorem wd_app (l : List Nat) (x j : Nat) (h : j < l.length) : wd (l ++ [x]) j = wd l j := by
  unfold wd
  rw [List.getD_eq_getElem?_getD, List.getD_eq_getElem?_getD, List.getElem?_append_left h]
theorem valP_app (l : List Nat) (x : Nat) : ∀ n, n ≤ l.length → valP (l ++ [x]) n = valP l n
  | 0, _ => rfl
  | n + 1, h => by rw [valP, valP, valP_app l x n (by omega), wd_app l x n (by omega)]
/-- Noughts, and one word above them. -/
theorem valP_high (k p : Nat) : valP (List.replicate k 0 ++ [p]) (k + 1) = p * 4294967296 ^ k := by
  have hl : (List.replicate k 0).length = k := by simp
  have h1 := wd_snoc (List.replicate k 0) p
  rw [hl] at h1
  rw [valP, h1, valP_app _ _ k (by omega), valP_zero _ (wd_zero k)]
  omega
theorem valP_two (x y : Nat) : valP [x, y] 2 = x + y * 4294967296 := by
  simp [valP, wd]
theorem pow_32 (k : Nat) : 4294967296 ^ k = 2 ^ (32 * k) := by
  rw [Nat.pow_mul]
/-- One step of the inner sum. -/
theorem mul_step {vV vV' c t V0 a S b P Q w : Nat} (h : vV + c * (P * Q) = V0 + a * S * P) (hs : vV' + w * (P * Q) = vV + (t % 4294967296) * (P * Q)) (ht : t = w + c + a * b) :
    vV' + t / 4294967296 * (P * Q * 4294967296) = V0 + a * (S + b * Q) * P := by
  have e1 : t / 4294967296 * (P * Q * 4294967296) = (t / 4294967296 * 4294967296) * (P * Q) := by
    rw [Nat.mul_comm (P * Q) 4294967296, ← Nat.mul_assoc]
  have e2 : (t % 4294967296) * (P * Q) + (t / 4294967296 * 4294967296) * (P * Q) = t * (P * Q) := by
    rw [← Nat.add_mul]
    congr 1
    omega
  have e3 : t * (P * Q) = w * (P * Q) + c * (P * Q) + a * b * (P * Q) := by rw [ht, Nat.add_mul, Nat.add_mul]
  have e4 : a * (S + b * Q) * P = a * S * P + a * b * (P * Q) := by
    rw [Nat.mul_add, Nat.add_mul]
    congr 1
    rw [← Nat.mul_assoc a b Q, Nat.mul_assoc (a * b) Q P, Nat.mul_comm Q P]
  rw [e1, e4]
  generalize P * Q = M at *
  generalize a * S * P = A1 at *
  generalize a * b * M = A2 at *
  generalize (t % 4294967296) * M = A3 at *
  generalize (t / 4294967296 * 4294967296) * M = A4 at *
  generalize t * M = A5 at *
  generalize w * M = A6 at *
  generalize c * M = A7 at *
  omega
end HX
end Go.Proofs.YtmpmmebmhffaeaaDoor
