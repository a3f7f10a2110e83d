/- Layer 4's check sum and weak sum over lists of bytes: what is turned in four bytes turns the check sum; rolled by one byte the weak sum is the next window's (no program is read here). -/
import Derived.Lib.Strings
set_option linter.all false
set_option maxRecDepth 100000
set_option maxHeartbeats 25600000
namespace Go.Proofs.YtbklnijmalnnoaaDoor.HP
open Go

/- the check sum -/
/-- One bit's step. -/
def cst (v : Nat) : Nat := if v % 2 = 1 then v / 2 ^^^ 3988292384 else v / 2
def csts : Nat → Nat → Nat
  | 0, v => v
  | n + 1, v => csts n (cst v)
/-- One byte. -/
def crcB (v : Nat) (b : UInt8) : Nat := csts 8 (v ^^^ b.toNat)
def crcR (v : Nat) (l : List UInt8) : Nat := l.foldl crcB v
def crcL (l : List UInt8) : Nat := crcR 4294967295 l ^^^ 4294967295

theorem xor_cancel {a b c : Nat} (h : a ^^^ c = b ^^^ c) : a = b := by
  have e : (a ^^^ c) ^^^ c = (b ^^^ c) ^^^ c := by rw [h]
  rwa [Nat.xor_assoc, Nat.xor_assoc, Nat.xor_self, Nat.xor_zero, Nat.xor_zero] at e
theorem xor_cancel_left {a b c : Nat} (h : c ^^^ a = c ^^^ b) : a = b := by
  rw [Nat.xor_comm c a, Nat.xor_comm c b] at h
  exact xor_cancel h
theorem cst_lt {v : Nat} (h : v < 2 ^ 32) : cst v < 2 ^ 32 := by
  unfold cst
  split
  · exact Nat.xor_lt_two_pow (by omega) (by decide)
  · omega
theorem csts_lt : ∀ (n : Nat) {v : Nat}, v < 2 ^ 32 → csts n v < 2 ^ 32
  | 0, _, h => h
  | n + 1, _, h => csts_lt n (cst_lt h)
theorem top_set {a : Nat} (h : a < 2 ^ 31) : 2 ^ 31 ≤ a ^^^ 3988292384 := by
  apply Nat.ge_two_pow_of_testBit
  rw [Nat.testBit_xor, Nat.testBit_lt_two_pow h]
  decide
theorem cst_inj {u v : Nat} (hu : u < 2 ^ 32) (hv : v < 2 ^ 32) (h : cst u = cst v) : u = v := by
  unfold cst at h
  by_cases h1 : u % 2 = 1
  · rw [if_pos h1] at h
    have t1 := top_set (a := u / 2) (by omega)
    by_cases h2 : v % 2 = 1
    · rw [if_pos h2] at h
      have := xor_cancel h
      omega
    · rw [if_neg h2] at h
      omega
  · rw [if_neg h1] at h
    by_cases h2 : v % 2 = 1
    · rw [if_pos h2] at h
      have t2 := top_set (a := v / 2) (by omega)
      omega
    · rw [if_neg h2] at h
      omega
theorem csts_inj : ∀ (n : Nat) {u v : Nat}, u < 2 ^ 32 → v < 2 ^ 32 → csts n u = csts n v → u = v
  | 0, _, _, _, _, h => h
  | n + 1, _, _, hu, hv, h => cst_inj hu hv (csts_inj n (cst_lt hu) (cst_lt hv) h)
theorem par_xor (a b : Nat) : (a ^^^ b) % 2 = (a % 2) ^^^ (b % 2) := Nat.xor_mod_two_pow (n := 1)
theorem cst_xor (u v : Nat) : cst (u ^^^ v) = cst u ^^^ cst v := by
  unfold cst
  rw [par_xor, Nat.xor_div_two]
  have h1 : u % 2 = 0 ∨ u % 2 = 1 := by omega
  have h2 : v % 2 = 0 ∨ v % 2 = 1 := by omega
  rcases h1 with h1 | h1 <;> rcases h2 with h2 | h2 <;> rw [h1, h2]
  · simp
  · simp only [Nat.zero_xor, if_true, Nat.zero_ne_one, if_false, Nat.xor_assoc]
  · simp only [Nat.xor_zero, if_true, Nat.zero_ne_one, if_false]
    rw [Nat.xor_assoc, Nat.xor_comm (v / 2), ← Nat.xor_assoc]
  · simp only [Nat.xor_self, if_true, Nat.zero_ne_one, if_false]
    have e : (u / 2 ^^^ 3988292384) ^^^ (v / 2 ^^^ 3988292384) = (u / 2 ^^^ v / 2) ^^^ (3988292384 ^^^ 3988292384) := by
      rw [Nat.xor_assoc, ← Nat.xor_assoc 3988292384, Nat.xor_comm 3988292384 (v / 2), Nat.xor_assoc (v / 2), ← Nat.xor_assoc]
    rw [e, Nat.xor_self, Nat.xor_zero]
theorem csts_xor : ∀ (n : Nat) (u v : Nat), csts n (u ^^^ v) = csts n u ^^^ csts n v
  | 0, _, _ => rfl
  | n + 1, u, v => by
    show csts n (cst (u ^^^ v)) = csts n (cst u) ^^^ csts n (cst v)
    rw [cst_xor, csts_xor n]
theorem cst_double (x : Nat) : cst (2 * x) = x := by
  unfold cst
  rw [if_neg (by omega)]
  omega
theorem csts_shift : ∀ (n x : Nat), csts n (x * 2 ^ n) = x
  | 0, x => by simp [csts]
  | n + 1, x => by
    show csts n (cst (x * 2 ^ (n + 1))) = x
    have e : x * 2 ^ (n + 1) = 2 * (x * 2 ^ n) := by rw [Nat.pow_succ, Nat.mul_comm (2 ^ n) 2, ← Nat.mul_assoc, Nat.mul_comm x 2, Nat.mul_assoc]
    rw [e, cst_double]
    exact csts_shift n x
theorem csts_add : ∀ (m n v : Nat), csts n (csts m v) = csts (m + n) v
  | 0, n, v => by rw [Nat.zero_add]; rfl
  | m + 1, n, v => by
    show csts n (csts m (cst v)) = csts (m + 1 + n) v
    rw [csts_add m n, show m + 1 + n = m + n + 1 by omega]
    rfl
/-- Four bytes behind one another, as one word. -/
def word (a b c d : UInt8) : Nat := a.toNat ^^^ (b.toNat * 2 ^ 8) ^^^ (c.toNat * 2 ^ 16) ^^^ (d.toNat * 2 ^ 24)
theorem feed (n x : Nat) (b : UInt8) : csts 8 (csts n x ^^^ b.toNat) = csts (n + 8) (x ^^^ (b.toNat * 2 ^ n)) := by
  rw [← csts_add n 8, csts_xor n, csts_shift]
theorem crc_four (v : Nat) (a b c d : UInt8) : crcR v [a, b, c, d] = csts 32 (v ^^^ word a b c d) := by
  show crcB (crcB (crcB (crcB v a) b) c) d = _
  unfold crcB word
  rw [feed 8 (v ^^^ a.toNat) b, feed (8 + 8) _ c, feed (8 + 8 + 8) _ d]
  simp only [Nat.xor_assoc]
theorem byte_shift_lt (b : UInt8) {n : Nat} (h : n ≤ 24) : b.toNat * 2 ^ n < 2 ^ 32 := by
  have h1 : b.toNat * 2 ^ n < 2 ^ 8 * 2 ^ n := Nat.mul_lt_mul_of_pos_right b.toNat_lt (Nat.pow_pos (by decide))
  rw [← Nat.pow_add] at h1
  exact Nat.lt_of_lt_of_le h1 (Nat.pow_le_pow_right (by decide) (by omega))
theorem word_lt (a b c d : UInt8) : word a b c d < 2 ^ 32 := by
  have h := byte_shift_lt a (n := 0) (by decide)
  rw [Nat.pow_zero, Nat.mul_one] at h
  exact Nat.xor_lt_two_pow (Nat.xor_lt_two_pow (Nat.xor_lt_two_pow h (byte_shift_lt b (by decide))) (byte_shift_lt c (by decide))) (byte_shift_lt d (by decide))
theorem word_eq {a b c d e f g h : UInt8} (hw : word a b c d = word e f g h) : a = e ∧ b = f ∧ c = g ∧ d = h := by
  have la := a.toNat_lt
  have lb := b.toNat_lt
  have lc := c.toNat_lt
  have ld := d.toNat_lt
  have le := e.toNat_lt
  have lf := f.toNat_lt
  have lg := g.toNat_lt
  have lh := h.toNat_lt
  have low : ∀ (p q r s : UInt8), word p q r s % 2 ^ 8 = p.toNat := fun p q r s => by
    have := p.toNat_lt
    unfold word
    rw [Nat.xor_mod_two_pow, Nat.xor_mod_two_pow, Nat.xor_mod_two_pow]
    rw [show q.toNat * 2 ^ 8 % 2 ^ 8 = 0 by omega, show r.toNat * 2 ^ 16 % 2 ^ 8 = 0 by omega, show s.toNat * 2 ^ 24 % 2 ^ 8 = 0 by omega, Nat.xor_zero, Nat.xor_zero, Nat.xor_zero]
    omega
  have next : ∀ (p q r s : UInt8), word p q r s / 2 ^ 8 % 2 ^ 8 = q.toNat := fun p q r s => by
    have := p.toNat_lt
    have := q.toNat_lt
    unfold word
    rw [Nat.xor_div_two_pow, Nat.xor_div_two_pow, Nat.xor_div_two_pow, Nat.xor_mod_two_pow, Nat.xor_mod_two_pow, Nat.xor_mod_two_pow]
    rw [show p.toNat / 2 ^ 8 % 2 ^ 8 = 0 by omega, show r.toNat * 2 ^ 16 / 2 ^ 8 % 2 ^ 8 = 0 by omega, show s.toNat * 2 ^ 24 / 2 ^ 8 % 2 ^ 8 = 0 by omega, Nat.xor_zero, Nat.xor_zero, Nat.zero_xor]
    omega
  have third : ∀ (p q r s : UInt8), word p q r s / 2 ^ 16 % 2 ^ 8 = r.toNat := fun p q r s => by
    have := p.toNat_lt
    have := q.toNat_lt
    have := r.toNat_lt
    unfold word
    rw [Nat.xor_div_two_pow, Nat.xor_div_two_pow, Nat.xor_div_two_pow, Nat.xor_mod_two_pow, Nat.xor_mod_two_pow, Nat.xor_mod_two_pow]
    rw [show p.toNat / 2 ^ 16 % 2 ^ 8 = 0 by omega, show q.toNat * 2 ^ 8 / 2 ^ 16 % 2 ^ 8 = 0 by omega, show s.toNat * 2 ^ 24 / 2 ^ 16 % 2 ^ 8 = 0 by omega, Nat.xor_zero, Nat.zero_xor, Nat.zero_xor]
    omega
  have top : ∀ (p q r s : UInt8), word p q r s / 2 ^ 24 % 2 ^ 8 = s.toNat := fun p q r s => by
    have := p.toNat_lt
    have := q.toNat_lt
    have := r.toNat_lt
    have := s.toNat_lt
    unfold word
    rw [Nat.xor_div_two_pow, Nat.xor_div_two_pow, Nat.xor_div_two_pow, Nat.xor_mod_two_pow, Nat.xor_mod_two_pow, Nat.xor_mod_two_pow]
    rw [show p.toNat / 2 ^ 24 % 2 ^ 8 = 0 by omega, show q.toNat * 2 ^ 8 / 2 ^ 24 % 2 ^ 8 = 0 by omega, show r.toNat * 2 ^ 16 / 2 ^ 24 % 2 ^ 8 = 0 by omega, Nat.zero_xor, Nat.zero_xor, Nat.zero_xor]
    omega
  refine ⟨UInt8.toNat_inj.1 ?_, UInt8.toNat_inj.1 ?_, UInt8.toNat_inj.1 ?_, UInt8.toNat_inj.1 ?_⟩
  · rw [← low a b c d, hw, low]
  · rw [← next a b c d, hw, next]
  · rw [← third a b c d, hw, third]
  · rw [← top a b c d, hw, top]
theorem crcB_lt {v : Nat} (b : UInt8) (h : v < 2 ^ 32) : crcB v b < 2 ^ 32 := by
  have hb := byte_shift_lt b (n := 0) (by decide)
  rw [Nat.pow_zero, Nat.mul_one] at hb
  exact csts_lt 8 (Nat.xor_lt_two_pow h hb)
theorem crcR_lt : ∀ (l : List UInt8) {v : Nat}, v < 2 ^ 32 → crcR v l < 2 ^ 32
  | [], _, h => h
  | b :: l, _, h => crcR_lt l (crcB_lt b h)
theorem crcR_app (v : Nat) (a b : List UInt8) : crcR v (a ++ b) = crcR (crcR v a) b := by unfold crcR; rw [List.foldl_append]
/-- What stands behind doesn't bring two states together. -/
theorem crcR_inj : ∀ (l : List UInt8) {u v : Nat}, u < 2 ^ 32 → v < 2 ^ 32 → crcR u l = crcR v l → u = v
  | [], _, _, _, _, h => h
  | b :: l, u, v, hu, hv, h => by
    have h1 := crcR_inj l (crcB_lt b hu) (crcB_lt b hv) h
    have hb := byte_shift_lt b (n := 0) (by decide)
    rw [Nat.pow_zero, Nat.mul_one] at hb
    exact xor_cancel (csts_inj 8 (Nat.xor_lt_two_pow hu hb) (Nat.xor_lt_two_pow hv hb) h1)
/-- Four bytes turned turn the check sum. -/
theorem crc_turned {p q : List UInt8} {a b c d e f g h : UInt8} (hc : crcL (p ++ [a, b, c, d] ++ q) = crcL (p ++ [e, f, g, h] ++ q)) : a = e ∧ b = f ∧ c = g ∧ d = h := by
  unfold crcL at hc
  have h1 := xor_cancel hc
  rw [crcR_app, crcR_app, crcR_app, crcR_app] at h1
  have hp := crcR_lt p (v := 4294967295) (by decide)
  have h2 := crcR_inj q (crcR_lt _ hp) (crcR_lt _ hp) h1
  rw [crc_four, crc_four] at h2
  exact word_eq (xor_cancel_left (csts_inj 32 (Nat.xor_lt_two_pow hp (word_lt ..)) (Nat.xor_lt_two_pow hp (word_lt ..)) h2))

/- the weak sum -/
def sumA : List UInt8 → Nat
  | [] => 0
  | x :: r => x.toNat + sumA r
def sumB : List UInt8 → Nat
  | [] => 0
  | x :: r => (r.length + 1) * x.toNat + sumB r
def weakL (l : List UInt8) : Nat := sumA l % 65536 + 65536 * (sumB l % 65536)
/-- One byte on, of any numbers. -/
def rollL (w : Nat) (n : Int) (out inn : UInt8) : Int :=
  (((w % 65536 : Nat) : Int) - out.toNat + inn.toNat) % 65536 + 65536 * ((((w / 65536 : Nat) : Int) - n * out.toNat + (((w % 65536 : Nat) : Int) - out.toNat + inn.toNat) % 65536) % 65536)
theorem sumA_snoc (l : List UInt8) (y : UInt8) : sumA (l ++ [y]) = sumA l + y.toNat := by
  induction l with
  | nil => simp [sumA]
  | cons x r ih => rw [List.cons_append, sumA, sumA, ih]; omega
theorem sumB_snoc (l : List UInt8) (y : UInt8) : sumB (l ++ [y]) = sumB l + sumA l + y.toNat := by
  induction l with
  | nil => simp [sumB, sumA]
  | cons x r ih =>
    rw [List.cons_append, sumB, sumB, sumA, ih, List.length_append, List.length_singleton, Nat.add_mul (r.length + 1) 1, Nat.one_mul]
    omega
theorem weak_low (l : List UInt8) : weakL l % 65536 = sumA l % 65536 := by unfold weakL; omega
theorem weak_high (l : List UInt8) : weakL l / 65536 = sumB l % 65536 := by unfold weakL; omega
theorem weak_lt (l : List UInt8) : weakL l < 2 ^ 32 := by unfold weakL; omega
/-- Rolled by one byte: the next window's. -/
theorem weak_rolls (x y : UInt8) (r : List UInt8) : rollL (weakL (x :: r)) ((r.length + 1 : Nat) : Int) x y = (weakL (r ++ [y]) : Nat) := by
  unfold rollL
  rw [weak_low, weak_high]
  have ea : sumA (x :: r) = x.toNat + sumA r := rfl
  have eb : sumB (x :: r) = (r.length + 1) * x.toNat + sumB r := rfl
  have ea2 := sumA_snoc r y
  have eb2 := sumB_snoc r y
  have e1 : (((sumA (x :: r) % 65536 : Nat) : Int) - x.toNat + y.toNat) % 65536 = ((sumA (r ++ [y]) % 65536 : Nat) : Int) := by
    rw [ea, ea2]
    omega
  rw [e1]
  have em : (((r.length + 1 : Nat) : Int) * (x.toNat : Int)) = (((r.length + 1) * x.toNat : Nat) : Int) := by rw [Int.natCast_mul]
  rw [em]
  generalize (r.length + 1) * x.toNat = m at eb
  unfold weakL
  rw [eb2, eb, ea2]
  omega
end Go.Proofs.YtbklnijmalnnoaaDoor.HP
