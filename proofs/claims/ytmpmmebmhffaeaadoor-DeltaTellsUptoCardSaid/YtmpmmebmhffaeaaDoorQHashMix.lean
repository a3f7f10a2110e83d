/- Layer 4: the contracts of the program's mix (and the library's RotateLeft32), weak and Roll. -/
import Derived.Test.YtmpmmebmhffaeaaDoorQHashRef1
import Derived.Test.YtmpmmebmhffaeaaDoorQHashRef3
import Derived.Laws.MathBits
import Derived.Laws.ShiftsVar
import Derived.Laws.ShiftsVarLaws
set_option linter.all false
set_option maxRecDepth 100000
set_option maxHeartbeats 25600000
namespace Go.Proofs.YtmpmmebmhffaeaaDoor
open Go.RowKit Go.Lib
namespace HQ
open HP HS HR

theorem and31 : ∀ n : Nat, n < 32 → 0 < n → bits .and .u64 (IntKind.u64.wrap (-(n : Int))) 31 = ((32 - n : Nat) : Int) := by decide +kernel
set_option maxRecDepth 100000 in
set_option maxHeartbeats 1600000 in
theorem rot_any (x n : Nat) (w : World) (hx : x < 4294967296) (h0 : 1 ≤ n) (h1 : n ≤ 31) :
    Calls Tryd.prog 66 #[.int .u32 x, .int .i64 (-(n : Int))] w fun e w' => e = .returned (.int .u32 (rotr x n : Nat)) ∧ w = w' := by
  have HA := and31 n (by omega) (by omega)
  go_enter Tryd.func66, Tryd.ntmps66
  go_wp2_with fail
  go_ret
  refine ⟨?_, rfl⟩
  have e2 : 32 - (32 - n) = n := by omega
  rw [e2]
  have e4 : bits .or .u32 ((x : Int) * 2 ^ (32 - n) % 4294967296) ((x : Int) / 2 ^ n) = (rotr x n : Nat) := by
    have e5 : (x : Int) / 2 ^ n = ((x / 2 ^ n : Nat) : Int) := by simp
    have e6 : (x : Int) * 2 ^ (32 - n) % 4294967296 = ((x * 2 ^ (32 - n) % 4294967296 : Nat) : Int) := by simp
    rw [e5, e6, or_u32 _ _ (by omega) (Nat.lt_of_le_of_lt (Nat.div_le_self _ _) (by omega)), Nat.or_comm]
    rfl
  exact congrArg (fun z => Ending.returned (Value.int .u32 z)) e4
set_option maxRecDepth 100000 in
set_option maxHeartbeats 1600000 in
theorem mix_any (x a b c : Nat) (w : World) (hx : x < 4294967296) (ha : 1 ≤ a ∧ a ≤ 31) (hb : 1 ≤ b ∧ b ≤ 31) (hc : 1 ≤ c ∧ c ≤ 31) :
    Calls Tryd.prog 62 #[.int .u32 x, .int .i64 a, .int .i64 b, .int .i64 c] w fun e w' => e = .returned (.int .u32 (rotr x a ^^^ rotr x b ^^^ rotr x c : Nat)) ∧ w = w' := by
  have haz : (1 : Int) ≤ a ∧ (a : Int) ≤ 31 := by omega
  have hbz : (1 : Int) ≤ b ∧ (b : Int) ≤ 31 := by omega
  have hcz : (1 : Int) ≤ c ∧ (c : Int) ≤ 31 := by omega
  have la := rotr_lt x a hx
  have lb := rotr_lt x b hx
  have lc := rotr_lt x c hx
  have H1 := Lib.hid (xor_u32 _ _ la lb)
  have H2 := Lib.hid (xor_u32 _ _ (Nat.xor_lt_two_pow la lb) lc)
  have HA := Lib.hid ha
  have HB := Lib.hid hb
  have HC := Lib.hid hc
  clear ha hb hc la lb lc
  have cA := fun W => rot_any x a W hx HA.out.1 HA.out.2
  have cB := fun W => rot_any x b W hx HB.out.1 HB.out.2
  have cC := fun W => rot_any x c W hx HC.out.1 HC.out.2
  go_enter Tryd.func62, Tryd.ntmps62
  go_wp2_with (go_at_call 66; (first | (with_reducible refine (cA _).mono ?_) | (with_reducible refine (cB _).mono ?_) | (with_reducible refine (cC _).mono ?_)); rintro e w' ⟨rfl, rfl⟩)
  go_ret
  refine ⟨?_, rfl⟩
  rw [← H2.out, ← H1.out]
  rfl
set_option maxRecDepth 100000 in
set_option maxHeartbeats 1600000 in
theorem weak_any (a b : Nat) (w : World) (ha : a < 4294967296) (hb : b < 4294967296) :
    Calls Tryd.prog 45 #[.int .u32 a, .int .u32 b] w fun e w' => e = .returned (.int .u32 (a % 65536 + 65536 * (b % 65536) : Nat)) ∧ w = w' := by
  have haz : (a : Int) < 4294967296 := by omega
  have hbz : (b : Int) < 4294967296 := by omega
  have H1 : bits .and .u32 (a : Int) 65535 = ((a % 65536 : Nat) : Int) := by
    have h := and_u32 a 65535 ha (by decide)
    rw [show (65535 : Nat) = 2 ^ 16 - 1 by decide, Nat.and_two_pow_sub_one_eq_mod] at h
    exact h
  have e6 : (b : Int) * 65536 % 4294967296 = ((65536 * (b % 65536) : Nat) : Int) := by omega
  have H2 : bits .or .u32 ((a % 65536 : Nat) : Int) ((b : Int) * 65536 % 4294967296) = ((a % 65536 + 65536 * (b % 65536) : Nat) : Int) := by
    rw [e6, or_u32 _ _ (by omega) (by omega), Nat.or_comm]
    congr 1
    have h := Nat.two_pow_add_eq_or_of_lt (i := 16) (b := a % 65536) (by omega) (b % 65536)
    rw [show (2 : Nat) ^ 16 = 65536 by decide] at h
    omega
  have HX1 := Lib.hid H1
  have HX2 := Lib.hid H2
  clear H1 H2 e6
  go_enter Tryd.func45, Tryd.ntmps45
  go_wp2_with fail
  go_ret
  refine ⟨?_, rfl⟩
  rw [← HX2.out, ← HX1.out]
  rfl
end HQ
end Go.Proofs.YtmpmmebmhffaeaaDoor
