/- Layer 4: what the program's tables hold (Env), and the contracts of its Weak and Crc. -/
import Derived.Test.YtmpmmebmhffaeaaDoorQHashMix
set_option linter.all false
set_option maxRecDepth 100000
set_option maxHeartbeats 25600000
namespace Go.Proofs.YtmpmmebmhffaeaaDoor
open Go.RowKit Go.Lib
namespace HQ
open HP HS HR

def startL : List Nat := [0x6a09e667, 0xbb67ae85, 0x3c6ef372, 0xa54ff53a, 0x510e527f, 0x9b05688c, 0x1f83d9ab, 0x5be0cd19]
/-- The program's three tables, as they lie in memory. -/
structure Env (w : World) : Prop where
  rnd : ∀ i : Nat, i < 64 → w.cell? ⟨1, i, none⟩ = some (.int .u32 (roundK.getD i 0 : Nat))
  beg : ∀ i : Nat, i < 8 → w.cell? ⟨0, i, none⟩ = some (.int .u32 (startL.getD i 0 : Nat))
theorem Env.below {w w' : World} (h : Env w) (hb : Below w.heap.size w w') : Env w' :=
  ⟨fun i hi => by rw [hb.cell (World.block_lt_of_cell? _ _ (h.rnd i hi))]; exact h.rnd i hi, fun i hi => by rw [hb.cell (World.block_lt_of_cell? _ _ (h.beg i hi))]; exact h.beg i hi⟩

theorem nib (u : Nat) : u / 16 ^^^ csts 4 (u % 16) = csts 4 u := by
  have e : u = (u / 16 * 2 ^ 4) ^^^ (u % 16) := by
    have h := Nat.two_pow_add_eq_or_of_lt (i := 4) (b := u % 16) (by omega) (u / 16)
    have h2 : (2 ^ 4 * (u / 16)) ^^^ (u % 16) = (2 ^ 4 * (u / 16)) ||| (u % 16) := by
      apply Nat.eq_of_testBit_eq
      intro j
      rw [Nat.testBit_xor, Nat.testBit_or, Nat.testBit_two_pow_mul]
      by_cases hj : 4 ≤ j
      · have : (u % 16).testBit j = false := Nat.testBit_lt_two_pow (Nat.lt_of_lt_of_le (show u % 16 < 2 ^ 4 by omega) (Nat.pow_le_pow_right (by decide) hj))
        simp [this]
      · simp [hj]
    rw [Nat.mul_comm, h2, ← h]
    omega
  conv => rhs; rw [e, csts_xor, csts_shift]
theorem nib_lt (u : Nat) (h : u < 4294967296) : csts 4 u < 4294967296 := csts_lt 4 h
theorem crcB_nib (v : Nat) (b : UInt8) : csts 4 (csts 4 (v ^^^ b.toNat)) = crcB v b := csts_add 4 4 _
theorem and_15 (u : Nat) (h : u < 4294967296) : bits .and .u32 (u : Int) 15 = ((u % 16 : Nat) : Int) := by
  have h := and_u32 u 15 h (by decide)
  rw [show (15 : Nat) = 2 ^ 4 - 1 by decide, Nat.and_two_pow_sub_one_eq_mod] at h
  exact h
set_option maxRecDepth 100000 in
set_option maxHeartbeats 1600000 in
theorem weak_all (s : ByteArray) (w : World) (hs : s.size ≤ maxLen) :
    Calls Tryd.prog 30 #[.string s] w fun e w' => e = .returned (.int .u32 (weakL s.data.toList : Nat)) ∧ w = w' := by
  unfold maxLen at hs
  have HS := Lib.hid (size_data s)
  go_enter Tryd.func30, Tryd.ntmps30
  go_wp2
  go_loop [3, 4, 5, 8] (fun s3 s4 _ s8 => ∃ k a b : Nat, k ≤ s.size ∧ s8 = .int .i64 k ∧ s3 = .int .u32 a ∧ s4 = .int .u32 b ∧ a = sumA (s.data.toList.take k) % 4294967296 ∧ b = sumB (s.data.toList.take k) % 4294967296) (fun _ _ _ s8 => s.size - (Go.RowKit.intOf s8).toNat)
  case atStart => exact ⟨0, 0, 0, Nat.zero_le _, rfl, rfl, rfl, rfl, rfl⟩
  case round =>
    obtain ⟨k, a, b, hk, rfl, rfl, rfl, ha, hb⟩ := hrel
    have ha6 : (a : Int) < 4294967296 := by omega
    have hb6 : (b : Int) < 4294967296 := by omega
    have HA := Lib.hid ha
    have HB := Lib.hid hb
    clear ha hb
    by_cases hlt : k < s.size
    · have hz : (k : Int) < s.size := by omega
      have hc := (s[k]).toNat_lt
      have hcz : ((s[k].toNat : Nat) : Int) < 256 := by omega
      have hget := Lib.data_getElem? s k hlt
      have HA2 : Hid ((a + (s[k]).toNat) % 4294967296 = sumA (s.data.toList.take (k + 1)) % 4294967296) := Lib.hid (by rw [sumA_snoc2 _ _ _ hget, HA.out]; omega)
      have HB2 : Hid ((b + (a + (s[k]).toNat) % 4294967296) % 4294967296 = sumB (s.data.toList.take (k + 1)) % 4294967296) := Lib.hid (by
        rw [take_at hget, sumB_snoc, HB.out, HA.out]
        omega)
      clear hget hc
      go_wp2_with fail
      go_round
      case rel => exact ⟨k + 1, _, _, by omega, by go_num, by go_num, by go_num, HA2.out, HB2.out⟩
      case measure => simp [Go.RowKit.intOf]; omega
    · have hz : ¬ (k : Int) < s.size := by omega
      have ht : s.data.toList.take k = s.data.toList := List.take_of_length_le (by rw [← HS.out]; omega)
      have HF : Hid (weakL s.data.toList = a % 65536 + 65536 * (b % 65536)) := Lib.hid (by
        unfold weakL
        rw [HA.out, HB.out, ht]
        omega)
      have cW := Lib.hid (fun W => weak_any a b W (by omega) (by omega))
      clear ht
      go_wp2_with (go_at_call 45; refine (cW.out _).mono ?_; rintro e w' ⟨rfl, rfl⟩)
      go_ret
      exact ⟨by rw [HF.out]; rfl, rfl⟩
end HQ
end Go.Proofs.YtmpmmebmhffaeaaDoor
