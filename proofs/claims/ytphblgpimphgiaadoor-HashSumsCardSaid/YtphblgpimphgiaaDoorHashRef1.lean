/- Layer 4: the contracts of the document's Crc, Weak and Roll. -/
import Derived.Test.YtphblgpimphgiaaDoorChecked
import Derived.Test.YtphblgpimphgiaaDoorHashPlain
import Derived.WalkKit
import Derived.WalkMore
import Derived.IntWalk
import Derived.Below
import Derived.OwnWalk
import Derived.Lib.Hide
import Derived.Lib.IndexBytes
import Derived.Laws.BitsAllLaws
namespace Go.Proofs.YtphblgpimphgiaaDoor
open Go.RowKit Go.Lib
namespace HR
open HP

theorem ofInt_u32 (a : Nat) (ha : a < 2 ^ 32) : (BitVec.ofInt 32 (a : Int)).toNat = a := by
  rw [BitVec.ofInt_natCast, BitVec.toNat_ofNat]; exact Nat.mod_eq_of_lt (by omega)
theorem wrap_u32 (n : Nat) (h : n < 2 ^ 32) : IntKind.u32.wrap (n : Int) = n := by
  simp [IntKind.wrap, IntKind.bits, IntKind.signed]
  omega
theorem xor_u32 (a b : Nat) (ha : a < 2 ^ 32) (hb : b < 2 ^ 32) : bits .xor .u32 (a : Int) (b : Int) = ((a ^^^ b : Nat) : Int) := by
  have hx : a ^^^ b < 2 ^ 32 := Nat.xor_lt_two_pow ha hb
  show IntKind.u32.wrap ((BitVec.ofInt 32 (a : Int) ^^^ BitVec.ofInt 32 (b : Int)).toNat : Int) = _
  rw [BitVec.toNat_xor, ofInt_u32 a ha, ofInt_u32 b hb, wrap_u32 _ hx]
theorem size_data (s : ByteArray) : s.size = s.data.toList.length := Lib.size_eq s
theorem take_at {l : List UInt8} {k : Nat} {b : UInt8} (h : l[k]? = some b) : l.take (k + 1) = l.take k ++ [b] := by
  rw [List.take_add_one, h]
  rfl
theorem crcR_snoc (v : Nat) (l : List UInt8) (b : UInt8) : crcR v (l ++ [b]) = crcB (crcR v l) b := by rw [crcR_app]; rfl
set_option maxRecDepth 100000 in
set_option maxHeartbeats 1600000 in
theorem rcrc_any (s : ByteArray) (w : World) (hs : s.size ≤ maxLen) :
    Calls Tryd.prog 14 #[.string s] w fun e w' => e = .returned (.int .u32 (crcL s.data.toList : Nat)) ∧ w = w' := by
  unfold maxLen at hs
  have HS := Lib.hid (size_data s)
  go_enter Tryd.func14, Tryd.ntmps14
  go_wp2
  go_loop [3, 4] (fun s3 s4 => ∃ k v : Nat, k ≤ s.size ∧ s4 = .int .i64 k ∧ s3 = .int .u32 v ∧ v < 2 ^ 32 ∧ crcR 4294967295 (s.data.toList.take k) = v) (fun _ s4 => s.size - (Go.RowKit.intOf s4).toNat)
  case atStart => exact ⟨0, 4294967295, Nat.zero_le _, rfl, rfl, by decide, rfl⟩
  case round =>
    obtain ⟨k, v, hk, rfl, rfl, hv, hc⟩ := hrel
    have HV := Lib.hid hv
    have HC := Lib.hid hc
    clear hc
    by_cases hlt : k < s.size
    · have hz : (k : Int) < s.size := by omega
      have hb := (s[k]).toNat_lt
      have HX := Lib.hid (xor_u32 v (s[k]).toNat hv (by omega))
      have HT := Lib.hid (take_at (Lib.data_getElem? s k hlt))
      have hlt2 := Nat.xor_lt_two_pow hv (show (s[k]).toNat < 2 ^ 32 by omega)
      have HL2 := Lib.hid hlt2
      have hbz : ((s[k].toNat : Nat) : Int) < 256 := by omega
      clear hv hb hlt2
      go_wp2_with fail
      go_loop [3, 5] (fun s3 s5 => ∃ j u : Nat, j ≤ 8 ∧ s5 = .int .i64 j ∧ s3 = .int .u32 u ∧ u < 2 ^ 32 ∧ csts (8 - j) u = crcB v s[k]) (fun _ s5 => 8 - (Go.RowKit.intOf s5).toNat)
      case atStart => exact ⟨0, v ^^^ (s[k]).toNat, by omega, rfl, by rw [HX.out], HL2.out, rfl⟩
      case round =>
        obtain ⟨j, u, hj, rfl, rfl, hu, hcs⟩ := hrel
        by_cases hj8 : j < 8
        · have hjz : (j : Int) < 8 := by omega
          have hu32 : (u : Int) < 4294967296 := by omega
          have hstep : csts (8 - (j + 1)) (cst u) = crcB v s[k] := by
            rw [← hcs, show 8 - j = (8 - (j + 1)) + 1 by omega]
            rfl
          have HSt := Lib.hid hstep
          have HU := Lib.hid (cst_lt hu)
          by_cases hp : u % 2 = 1
          · have hpz : ((u : Int) % 2 == 1) = true := by simp; omega
            have HX2 := Lib.hid (xor_u32 (u / 2) 3988292384 (by omega) (by decide))
            have HE : Hid (cst u = u / 2 ^^^ 3988292384) := Lib.hid (by unfold cst; rw [if_pos hp])
            clear hcs hstep hu
            go_wp2_with fail
            go_round
            case rel => exact ⟨j + 1, cst u, by omega, by go_num, by rw [HE.out]; exact congrArg _ HX2.out, HU.out, HSt.out⟩
            case measure => simp [Go.RowKit.intOf]; omega
          · have hpz : ((u : Int) % 2 == 1) = false := by simp; omega
            have HE : Hid (cst u = u / 2) := Lib.hid (by unfold cst; rw [if_neg hp])
            clear hcs hstep hu
            go_wp2_with fail
            go_round
            case rel => exact ⟨j + 1, cst u, by omega, by go_num, by rw [HE.out]; go_num, HU.out, HSt.out⟩
            case measure => simp [Go.RowKit.intOf]; omega
        · have hjz : ¬ (j : Int) < 8 := by omega
          have hj0 : j = 8 := by omega
          subst hj0
          have hcu : u = crcB v s[k] := hcs
          have HCu := Lib.hid hcu
          clear hcs hcu
          go_wp2_with fail
          go_round
          case rel => exact ⟨k + 1, u, by omega, by go_num, rfl, hu, by rw [HT.out, crcR_snoc, HC.out, HCu.out]⟩
          case measure => simp [Go.RowKit.intOf]; omega
    · have hz : ¬ (k : Int) < s.size := by omega
      have HX := Lib.hid (xor_u32 v 4294967295 hv (by decide))
      have HF : Hid (crcL s.data.toList = v ^^^ 4294967295) := Lib.hid (by
        unfold crcL
        rw [← HC.out, List.take_of_length_le (by rw [← HS.out]; omega)])
      clear hv
      go_wp2_with fail
      go_ret
      exact ⟨by rw [HF.out]; exact congrArg (fun z => Ending.returned (Value.int .u32 z)) HX.out, rfl⟩
theorem sumA_snoc2 (l : List UInt8) (k : Nat) (b : UInt8) (h : l[k]? = some b) : sumA (l.take (k + 1)) = sumA (l.take k) + b.toNat := by rw [take_at h, sumA_snoc]
/-- The second sum so far, as the document adds it up. -/
def sumBF (n : Nat) : List UInt8 → Nat → Nat
  | [], _ => 0
  | x :: r, i => (n - i) * x.toNat + sumBF n r (i + 1)
theorem sumBF_snoc (n : Nat) (b : UInt8) : ∀ (l : List UInt8) (i : Nat), sumBF n (l ++ [b]) i = sumBF n l i + (n - (i + l.length)) * b.toNat
  | [], i => by simp [sumBF]
  | x :: r, i => by
    rw [List.cons_append, sumBF, sumBF, sumBF_snoc n b r, List.length_cons, show i + 1 + r.length = i + (r.length + 1) by omega]
    omega
theorem sumBF_eq (n : Nat) : ∀ (l : List UInt8) (i : Nat), i + l.length = n → sumBF n l i = sumB l
  | [], _, _ => rfl
  | x :: r, i, h => by
    rw [List.length_cons] at h
    rw [sumBF, sumB, sumBF_eq n r (i + 1) (by omega), show n - i = r.length + 1 by omega]
theorem mod_step (B m c : Nat) : (B % 65536 + m % 65536 * c) % 65536 = (B + m * c) % 65536 := by
  rw [Nat.add_mod, Nat.mod_mod, Nat.mul_mod, Nat.mod_mod, ← Nat.mul_mod, ← Nat.add_mod]
set_option maxRecDepth 100000 in
set_option maxHeartbeats 1600000 in
theorem rweak_any (s : ByteArray) (w : World) (hs : s.size ≤ maxLen) :
    Calls Tryd.prog 12 #[.string s] w fun e w' => e = .returned (.int .u32 (weakL s.data.toList : Nat)) ∧ w = w' := by
  unfold maxLen at hs
  have HS := Lib.hid (size_data s)
  go_enter Tryd.func12, Tryd.ntmps12
  go_wp2
  go_loop [3, 4, 5] (fun s3 s4 s5 => ∃ k a b : Nat, k ≤ s.size ∧ s5 = .int .i64 k ∧ s3 = .int .i64 a ∧ s4 = .int .i64 b ∧ a = sumA (s.data.toList.take k) % 65536 ∧ b = sumBF s.size (s.data.toList.take k) 0 % 65536) (fun _ _ s5 => s.size - (Go.RowKit.intOf s5).toNat)
  case atStart => exact ⟨0, 0, 0, Nat.zero_le _, rfl, rfl, rfl, rfl, rfl⟩
  case round =>
    obtain ⟨k, a, b, hk, rfl, rfl, rfl, ha, hb⟩ := hrel
    have ha6 : a < 65536 := by omega
    have hb6 : b < 65536 := by omega
    have HA := Lib.hid ha
    have HB := Lib.hid hb
    clear ha hb
    by_cases hlt : k < s.size
    · have hz : (k : Int) < s.size := by omega
      have hc := (s[k]).toNat_lt
      have hcz : ((s[k].toNat : Nat) : Int) < 256 := by omega
      have hget := Lib.data_getElem? s k hlt
      have HA2 : Hid ((a + (s[k]).toNat) % 65536 = sumA (s.data.toList.take (k + 1)) % 65536) := Lib.hid (by rw [sumA_snoc2 _ _ _ hget, HA.out]; omega)
      have hlk : (s.data.toList.take k).length = k := by rw [List.length_take, ← HS.out]; omega
      have HB2 : Hid ((b + (s.size - k) % 65536 * (s[k]).toNat) % 65536 = sumBF s.size (s.data.toList.take (k + 1)) 0 % 65536) := Lib.hid (by
        rw [take_at hget, sumBF_snoc, hlk, Nat.zero_add, HB.out, mod_step])
      have hm : (s.size - k) % 65536 * (s[k]).toNat ≤ 65535 * 255 := Nat.mul_le_mul (by omega) (by omega)
      have hmz : (((s.size : Int) - k) % 65536) * ((s[k].toNat : Nat) : Int) = (((s.size - k) % 65536 * (s[k]).toNat : Nat) : Int) := by
        rw [Int.natCast_mul]
        congr 1
        omega
      have HM := Lib.hid hmz
      have hmb : (((s.size : Int) - k) % 65536) * ((s[k].toNat : Nat) : Int) ≤ 16711425 := by rw [hmz]; omega
      have hm0 : 0 ≤ (((s.size : Int) - k) % 65536) * ((s[k].toNat : Nat) : Int) := by rw [hmz]; omega
      clear hget hlk hm hc hmz
      go_wp2_with fail
      go_round
      case rel => exact ⟨k + 1, _, _, by omega, by go_num, by go_num, (by rw [HM.out]; go_num), HA2.out, HB2.out⟩
      case measure => simp [Go.RowKit.intOf]; omega
    · have hz : ¬ (k : Int) < s.size := by omega
      have ht : s.data.toList.take k = s.data.toList := List.take_of_length_le (by rw [← HS.out]; omega)
      have HF : Hid (weakL s.data.toList = a + 65536 * b) := Lib.hid (by
        unfold weakL
        rw [HA.out, HB.out, ht, sumBF_eq s.size _ 0 (by rw [← HS.out]; omega)])
      clear ht
      go_wp2_with fail
      go_ret
      exact ⟨by rw [HF.out]; go_num, rfl⟩
theorem roll_eq {x a n o m : Int} (hm : m = n % 65536) : (x + 16777216 - m * o + a) % 65536 = (x - n * o + a) % 65536 := by
  have e : n = m + 65536 * (n / 65536) := by omega
  have e2 : n * o = m * o + 65536 * (n / 65536 * o) := by
    rw [← Int.mul_assoc, ← Int.add_mul, ← e]
  rw [e2]
  generalize m * o = p
  generalize n / 65536 * o = q
  omega
theorem tmod_is (n : Int) : n.tmod 65536 = if 0 ≤ n then n % 65536 else -((-n) % 65536) := by
  by_cases h : 0 ≤ n
  · rw [if_pos h, Int.tmod_eq_emod_of_nonneg h]
  · rw [if_neg h, ← Int.tmod_eq_emod_of_nonneg (by omega), Int.neg_tmod, Int.neg_neg]
set_option maxRecDepth 3000 in
set_option maxHeartbeats 1600000 in
theorem rroll_any (v : Nat) (n : Int) (out inn : UInt8) (w : World) (hv : v < 4294967296) (h0 : -9223372036854775808 ≤ n) (h1 : n ≤ 9223372036854775807) :
    Calls Tryd.prog 18 #[.int .u32 v, .int .i64 n, .int .u8 out.toNat, .int .u8 inn.toNat] w fun e w' => e = .returned (.int .u32 (rollL v n out inn)) ∧ w = w' := by
  have ho := out.toNat_lt
  have hi := inn.toNat_lt
  unfold rollL
  generalize out.toNat = o at ho ⊢
  generalize inn.toNat = i at hi ⊢
  have hoz : (o : Int) < 256 := by omega
  have hiz : (i : Int) < 256 := by omega
  have hvz : (v : Int) < 4294967296 := by omega
  obtain ⟨m, hm⟩ : ∃ m : Int, m = n % 65536 := ⟨_, rfl⟩
  have hm0 : 0 ≤ m := by omega
  have hm1 : m < 65536 := by omega
  have hmo : m * (o : Int) ≤ 16711425 := by
    have h1 : m * (o : Int) ≤ 65535 * 255 := Int.mul_le_mul (by omega) (by omega) (by omega) (by omega)
    omega
  have hmo0 : 0 ≤ m * (o : Int) := Int.mul_nonneg hm0 (by omega)
  have HE := Lib.hid (fun (x a : Int) => roll_eq (x := x) (a := a) (o := (o : Int)) hm)
  clear ho hi hv
  have ht := tmod_is n
  by_cases hneg : 0 ≤ n
  · have hnn : ¬ (n % 65536 < 0) := by omega
    clear ht hm0 hm1
    subst hm
    go_enter Tryd.func18, Tryd.ntmps18
    go_wp2_with fail
    go_ret
    exact ⟨by rw [HE.out]; rfl, rfl⟩
  · rw [if_neg hneg] at ht
    by_cases hz : n.tmod 65536 < 0
    · have hmt : n.tmod 65536 + 65536 = m := by omega
      have hlo : -65536 < n.tmod 65536 := by omega
      clear ht hm0 hm1 hm
      rw [← hmt] at hmo hmo0
      have HT := Lib.hid hmt
      clear hmt
      go_enter Tryd.func18, Tryd.ntmps18
      go_wp2_with fail
      go_ret
      exact ⟨by rw [HT.out, HE.out]; rfl, rfl⟩
    · have hmt : n.tmod 65536 = m := by omega
      clear ht hm0 hm1 hm
      rw [← hmt] at hmo hmo0
      have HT := Lib.hid hmt
      clear hmt
      go_enter Tryd.func18, Tryd.ntmps18
      go_wp2_with fail
      go_ret
      exact ⟨by rw [HT.out, HE.out]; rfl, rfl⟩
end HR
end Go.Proofs.YtphblgpimphgiaaDoor
