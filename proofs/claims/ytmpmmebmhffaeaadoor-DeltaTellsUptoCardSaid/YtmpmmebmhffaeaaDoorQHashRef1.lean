/- Layer 4: the contracts of the document's Crc, Weak and Roll. -/
import Derived.Test.YtmpmmebmhffaeaaDoorQHashPlain
import Derived.Test.YtmpmmebmhffaeaaDoorChecked
import Derived.WalkKit
import Derived.WalkMore
import Derived.IntWalk
import Derived.Below
import Derived.OwnWalk
import Derived.Lib.Hide
import Derived.Lib.IndexBytes
import Derived.Laws.BitsAllLaws
set_option linter.all false
set_option maxRecDepth 100000
set_option maxHeartbeats 25600000
namespace Go.Proofs.YtmpmmebmhffaeaaDoor
open Go.RowKit Go.Lib
namespace HR
open HP

theorem ofInt_u32 (a : Nat) (ha : a < 2 ^ 32) : (BitVec.ofInt 32 (a : Int)).toNat = a := by
  rw [BitVec.ofInt_natCast, BitVec.toNat_ofNat]; exact Nat.mod_eq_of_lt (by omega)
theorem wrap_u32 (n : Nat) (h : n < 2 ^ 32) : IntKind.u32.wrap (n : Int) = n := by
  simp [IntKind.wrap, IntKind.bits, IntKind.signed]
  omega
theorem xor_u32 (a b : Nat) (ha : a < 2 ^ 32) (hb : b < 2 ^ 32) : bits .xor .u32 (a : Int) (b : Int) = ((a ^^^ b : Nat) : Int) := by
  have hx : a ^^^ b < 2 ^ 32 := Nat.xor_lt_two_pow ha hb
  show IntKind.u32.wrap ((BitVec.ofInt 32 (a : Int) ^^^ BitVec.ofInt 32 (b : Int)).toNat : Int) = _
  rw [BitVec.toNat_xor, ofInt_u32 a ha, ofInt_u32 b hb, wrap_u32 _ hx]
theorem size_data (s : ByteArray) : s.size = s.data.toList.length := Lib.size_eq s
theorem take_at {l : List UInt8} {k : Nat} {b : UInt8} (h : l[k]? = some b) : l.take (k + 1) = l.take k ++ [b] := by
  rw [List.take_add_one, h]
  rfl
theorem crcR_snoc (v : Nat) (l : List UInt8) (b : UInt8) : crcR v (l ++ [b]) = crcB (crcR v l) b := by rw [crcR_app]; rfl
theorem sumA_snoc2 (l : List UInt8) (k : Nat) (b : UInt8) (h : l[k]? = some b) : sumA (l.take (k + 1)) = sumA (l.take k) + b.toNat := by rw [take_at h, sumA_snoc]
/-- The second sum so far, as the document adds it up. -/
def sumBF (n : Nat) : List UInt8 → Nat → Nat
  | [], _ => 0
  | x :: r, i => (n - i) * x.toNat + sumBF n r (i + 1)
theorem sumBF_snoc (n : Nat) (b : UInt8) : ∀ (l : List UInt8) (i : Nat), sumBF n (l ++ [b]) i = sumBF n l i + (n - (i + l.length)) * b.toNat
  | [], i => by simp [sumBF]
  | x :: r, i => by
    rw [List.cons_append, sumBF, sumBF, sumBF_snoc n b r, List.length_cons, show i + 1 + r.length = i + (r.length + 1) by omega]
    omega
theorem sumBF_eq (n : Nat) : ∀ (l : List UInt8) (i : Nat), i + l.length = n → sumBF n l i = sumB l
  | [], _, _ => rfl
  | x :: r, i, h => by
    rw [List.length_cons] at h
    rw [sumBF, sumB, sumBF_eq n r (i + 1) (by omega), show n - i = r.length + 1 by omega]
theorem mod_step (B m c : Nat) : (B % 65536 + m % 65536 * c) % 65536 = (B + m * c) % 65536 := by
  rw [Nat.add_mod, Nat.mod_mod, Nat.mul_mod, Nat.mod_mod, ← Nat.mul_mod, ← Nat.add_mod]
set_option maxRecDepth 100000 in
set_option maxHeartbeats 1600000 in
theorem rweak_any (s : ByteArray) (w : World) (hs : s.size ≤ maxLen) :
    Calls Tryd.prog 21 #[.string s] w fun e w' => e = .returned (.int .u32 (weakL s.data.toList : Nat)) ∧ w = w' := by
  unfold maxLen at hs
  have HS := Lib.hid (size_data s)
  go_enter Tryd.func21, Tryd.ntmps21
  go_wp2
  go_loop [3, 4, 5] (fun s3 s4 s5 => ∃ k a b : Nat, k ≤ s.size ∧ s5 = .int .i64 k ∧ s3 = .int .i64 a ∧ s4 = .int .i64 b ∧ a = sumA (s.data.toList.take k) % 65536 ∧ b = sumBF s.size (s.data.toList.take k) 0 % 65536) (fun _ _ s5 => s.size - (Go.RowKit.intOf s5).toNat)
  case atStart => exact ⟨0, 0, 0, Nat.zero_le _, rfl, rfl, rfl, rfl, rfl⟩
  case round =>
    obtain ⟨k, a, b, hk, rfl, rfl, rfl, ha, hb⟩ := hrel
    have ha6 : a < 65536 := by omega
    have hb6 : b < 65536 := by omega
    have HA := Lib.hid ha
    have HB := Lib.hid hb
    clear ha hb
    by_cases hlt : k < s.size
    · have hz : (k : Int) < s.size := by omega
      have hc := (s[k]).toNat_lt
      have hcz : ((s[k].toNat : Nat) : Int) < 256 := by omega
      have hget := Lib.data_getElem? s k hlt
      have HA2 : Hid ((a + (s[k]).toNat) % 65536 = sumA (s.data.toList.take (k + 1)) % 65536) := Lib.hid (by rw [sumA_snoc2 _ _ _ hget, HA.out]; omega)
      have hlk : (s.data.toList.take k).length = k := by rw [List.length_take, ← HS.out]; omega
      have HB2 : Hid ((b + (s.size - k) % 65536 * (s[k]).toNat) % 65536 = sumBF s.size (s.data.toList.take (k + 1)) 0 % 65536) := Lib.hid (by
        rw [take_at hget, sumBF_snoc, hlk, Nat.zero_add, HB.out, mod_step])
      have hm : (s.size - k) % 65536 * (s[k]).toNat ≤ 65535 * 255 := Nat.mul_le_mul (by omega) (by omega)
      have hmz : (((s.size : Int) - k) % 65536) * ((s[k].toNat : Nat) : Int) = (((s.size - k) % 65536 * (s[k]).toNat : Nat) : Int) := by
        rw [Int.natCast_mul]
        congr 1
        omega
      have HM := Lib.hid hmz
      have hmb : (((s.size : Int) - k) % 65536) * ((s[k].toNat : Nat) : Int) ≤ 16711425 := by rw [hmz]; omega
      have hm0 : 0 ≤ (((s.size : Int) - k) % 65536) * ((s[k].toNat : Nat) : Int) := by rw [hmz]; omega
      clear hget hlk hm hc hmz
      go_wp2_with fail
      go_round
      case rel => exact ⟨k + 1, _, _, by omega, by go_num, by go_num, (by rw [HM.out]; go_num), HA2.out, HB2.out⟩
      case measure => simp [Go.RowKit.intOf]; omega
    · have hz : ¬ (k : Int) < s.size := by omega
      have ht : s.data.toList.take k = s.data.toList := List.take_of_length_le (by rw [← HS.out]; omega)
      have HF : Hid (weakL s.data.toList = a + 65536 * b) := Lib.hid (by
        unfold weakL
        rw [HA.out, HB.out, ht, sumBF_eq s.size _ 0 (by rw [← HS.out]; omega)])
      clear ht
      go_wp2_with fail
      go_ret
      exact ⟨by rw [HF.out]; go_num, rfl⟩
theorem roll_eq {x a n o m : Int} (hm : m = n % 65536) : (x + 16777216 - m * o + a) % 65536 = (x - n * o + a) % 65536 := by
  have e : n = m + 65536 * (n / 65536) := by omega
  have e2 : n * o = m * o + 65536 * (n / 65536 * o) := by
    rw [← Int.mul_assoc, ← Int.add_mul, ← e]
  rw [e2]
  generalize m * o = p
  generalize n / 65536 * o = q
  omega
theorem tmod_is (n : Int) : n.tmod 65536 = if 0 ≤ n then n % 65536 else -((-n) % 65536) := by
  by_cases h : 0 ≤ n
  · rw [if_pos h, Int.tmod_eq_emod_of_nonneg h]
  · rw [if_neg h, ← Int.tmod_eq_emod_of_nonneg (by omega), Int.neg_tmod, Int.neg_neg]
end HR
end Go.Proofs.YtmpmmebmhffaeaaDoor
