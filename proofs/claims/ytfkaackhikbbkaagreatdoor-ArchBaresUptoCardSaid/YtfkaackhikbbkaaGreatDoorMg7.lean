/- Texts of this seat, put one behind the other: what its statements share (part 7). -/
import Derived.Test.YtfkaackhikbbkaaGreatDoorMg1
import Derived.Test.YtfkaackhikbbkaaGreatDoorMg6
import Derived.Test.YtfkaackhikbbkaaGreatDoorChecked
import Derived.WalkKit
import Derived.WalkMore
import Derived.IntWalk
import Derived.Below
import Derived.OwnWalk
import Derived.Lib.Hide
import Derived.Lib.IndexBytes
import Derived.Laws.BitsAllLaws
import Derived.Laws.ShiftsVar
import Derived.Laws.ShiftsVarLaws
section
/- The check sum alone (for the layers above hash): what the program's table holds (Env), and the contracts of the program's Crc and of the document's. -/
namespace Go.Proofs.YtfkaackhikbbkaaGreatDoor
open Go.RowKit Go.Lib
namespace HCr
open HP

theorem ofInt_u32 (a : Nat) (ha : a < 2 ^ 32) : (BitVec.ofInt 32 (a : Int)).toNat = a := by
  rw [BitVec.ofInt_natCast, BitVec.toNat_ofNat]; exact Nat.mod_eq_of_lt (by omega)
theorem wrap_u32 (n : Nat) (h : n < 2 ^ 32) : IntKind.u32.wrap (n : Int) = n := by
  simp [IntKind.wrap, IntKind.bits, IntKind.signed]
  omega
theorem xor_u32 (a b : Nat) (ha : a < 2 ^ 32) (hb : b < 2 ^ 32) : bits .xor .u32 (a : Int) (b : Int) = ((a ^^^ b : Nat) : Int) := by
  have hx : a ^^^ b < 2 ^ 32 := Nat.xor_lt_two_pow ha hb
  show IntKind.u32.wrap ((BitVec.ofInt 32 (a : Int) ^^^ BitVec.ofInt 32 (b : Int)).toNat : Int) = _
  rw [BitVec.toNat_xor, ofInt_u32 a ha, ofInt_u32 b hb, wrap_u32 _ hx]
theorem size_data (s : ByteArray) : s.size = s.data.toList.length := Lib.size_eq s
theorem take_at {l : List UInt8} {k : Nat} {b : UInt8} (h : l[k]? = some b) : l.take (k + 1) = l.take k ++ [b] := by
  rw [List.take_add_one, h]
  rfl
theorem crcR_snoc (v : Nat) (l : List UInt8) (b : UInt8) : crcR v (l ++ [b]) = crcB (crcR v l) b := by rw [crcR_app]; rfl
set_option maxRecDepth 100000 in
set_option maxHeartbeats 1600000 in
theorem rcrc_any (s : ByteArray) (w : World) (hs : s.size ≤ maxLen) :
    Calls Tryz.prog 72 #[.string s] w fun e w' => e = .returned (.int .u32 (crcL s.data.toList : Nat)) ∧ w = w' := by
  unfold maxLen at hs
  have HS := Lib.hid (size_data s)
  go_enter Tryz.func72, Tryz.ntmps72
  go_wp2
  go_loop [3, 4] (fun s3 s4 => ∃ k v : Nat, k ≤ s.size ∧ s4 = .int .i64 k ∧ s3 = .int .u32 v ∧ v < 2 ^ 32 ∧ crcR 4294967295 (s.data.toList.take k) = v) (fun _ s4 => s.size - (Go.RowKit.intOf s4).toNat)
  case atStart => exact ⟨0, 4294967295, Nat.zero_le _, rfl, rfl, by decide, rfl⟩
  case round =>
    obtain ⟨k, v, hk, rfl, rfl, hv, hc⟩ := hrel
    have HV := Lib.hid hv
    have HC := Lib.hid hc
    clear hc
    by_cases hlt : k < s.size
    · have hz : (k : Int) < s.size := by omega
      have hb := (s[k]).toNat_lt
      have HX := Lib.hid (xor_u32 v (s[k]).toNat hv (by omega))
      have HT := Lib.hid (take_at (Lib.data_getElem? s k hlt))
      have hlt2 := Nat.xor_lt_two_pow hv (show (s[k]).toNat < 2 ^ 32 by omega)
      have HL2 := Lib.hid hlt2
      have hbz : ((s[k].toNat : Nat) : Int) < 256 := by omega
      clear hv hb hlt2
      go_wp2_with fail
      go_loop [3, 5] (fun s3 s5 => ∃ j u : Nat, j ≤ 8 ∧ s5 = .int .i64 j ∧ s3 = .int .u32 u ∧ u < 2 ^ 32 ∧ csts (8 - j) u = crcB v s[k]) (fun _ s5 => 8 - (Go.RowKit.intOf s5).toNat)
      case atStart => exact ⟨0, v ^^^ (s[k]).toNat, by omega, rfl, by rw [HX.out], HL2.out, rfl⟩
      case round =>
        obtain ⟨j, u, hj, rfl, rfl, hu, hcs⟩ := hrel
        by_cases hj8 : j < 8
        · have hjz : (j : Int) < 8 := by omega
          have hu32 : (u : Int) < 4294967296 := by omega
          have hstep : csts (8 - (j + 1)) (cst u) = crcB v s[k] := by
            rw [← hcs, show 8 - j = (8 - (j + 1)) + 1 by omega]
            rfl
          have HSt := Lib.hid hstep
          have HU := Lib.hid (cst_lt hu)
          by_cases hp : u % 2 = 1
          · have hpz : ((u : Int) % 2 == 1) = true := by simp; omega
            have HX2 := Lib.hid (xor_u32 (u / 2) 3988292384 (by omega) (by decide))
            have HE : Hid (cst u = u / 2 ^^^ 3988292384) := Lib.hid (by unfold cst; rw [if_pos hp])
            clear hcs hstep hu
            go_wp2_with fail
            go_round
            case rel => exact ⟨j + 1, cst u, by omega, by go_num, by rw [HE.out]; exact congrArg _ HX2.out, HU.out, HSt.out⟩
            case measure => simp [Go.RowKit.intOf]; omega
          · have hpz : ((u : Int) % 2 == 1) = false := by simp; omega
            have HE : Hid (cst u = u / 2) := Lib.hid (by unfold cst; rw [if_neg hp])
            clear hcs hstep hu
            go_wp2_with fail
            go_round
            case rel => exact ⟨j + 1, cst u, by omega, by go_num, by rw [HE.out]; go_num, HU.out, HSt.out⟩
            case measure => simp [Go.RowKit.intOf]; omega
        · have hjz : ¬ (j : Int) < 8 := by omega
          have hj0 : j = 8 := by omega
          subst hj0
          have hcu : u = crcB v s[k] := hcs
          have HCu := Lib.hid hcu
          clear hcs hcu
          go_wp2_with fail
          go_round
          case rel => exact ⟨k + 1, u, by omega, by go_num, rfl, hu, by rw [HT.out, crcR_snoc, HC.out, HCu.out]⟩
          case measure => simp [Go.RowKit.intOf]; omega
    · have hz : ¬ (k : Int) < s.size := by omega
      have HX := Lib.hid (xor_u32 v 4294967295 hv (by decide))
      have HF : Hid (crcL s.data.toList = v ^^^ 4294967295) := Lib.hid (by
        unfold crcL
        rw [← HC.out, List.take_of_length_le (by rw [← HS.out]; omega)])
      clear hv
      go_wp2_with fail
      go_ret
      exact ⟨by rw [HF.out]; exact congrArg (fun z => Ending.returned (Value.int .u32 z)) HX.out, rfl⟩
theorem and_u32 (a b : Nat) (ha : a < 2 ^ 32) (hb : b < 2 ^ 32) : bits .and .u32 (a : Int) (b : Int) = ((a &&& b : Nat) : Int) := by
  have hx : a &&& b < 2 ^ 32 := Nat.lt_of_le_of_lt Nat.and_le_left ha
  show IntKind.u32.wrap ((BitVec.ofInt 32 (a : Int) &&& BitVec.ofInt 32 (b : Int)).toNat : Int) = _
  rw [BitVec.toNat_and, ofInt_u32 a ha, ofInt_u32 b hb, wrap_u32 _ hx]
end HCr
namespace HC
open HP HCr
/-- The program's table of the check sum, as it lies in memory. -/
structure Env (w : World) : Prop where
  chk : ∀ i : Nat, i < 16 → w.cell? ⟨2, i, none⟩ = some (.int .u32 (csts 4 i : Nat))
theorem Env.below {w w' : World} (h : Env w) (hb : Below w.heap.size w w') : Env w' :=
  ⟨fun i hi => by rw [hb.cell (World.block_lt_of_cell? _ _ (h.chk i hi))]; exact h.chk i hi⟩
theorem nib (u : Nat) : u / 16 ^^^ csts 4 (u % 16) = csts 4 u := by
  have e : u = (u / 16 * 2 ^ 4) ^^^ (u % 16) := by
    have h := Nat.two_pow_add_eq_or_of_lt (i := 4) (b := u % 16) (by omega) (u / 16)
    have h2 : (2 ^ 4 * (u / 16)) ^^^ (u % 16) = (2 ^ 4 * (u / 16)) ||| (u % 16) := by
      apply Nat.eq_of_testBit_eq
      intro j
      rw [Nat.testBit_xor, Nat.testBit_or, Nat.testBit_two_pow_mul]
      by_cases hj : 4 ≤ j
      · have : (u % 16).testBit j = false := Nat.testBit_lt_two_pow (Nat.lt_of_lt_of_le (show u % 16 < 2 ^ 4 by omega) (Nat.pow_le_pow_right (by decide) hj))
        simp [this]
      · simp [hj]
    rw [Nat.mul_comm, h2, ← h]
    omega
  conv => rhs; rw [e, csts_xor, csts_shift]
theorem nib_lt (u : Nat) (h : u < 4294967296) : csts 4 u < 4294967296 := csts_lt 4 h
theorem crcB_nib (v : Nat) (b : UInt8) : csts 4 (csts 4 (v ^^^ b.toNat)) = crcB v b := csts_add 4 4 _
theorem and_15 (u : Nat) (h : u < 4294967296) : bits .and .u32 (u : Int) 15 = ((u % 16 : Nat) : Int) := by
  have h := and_u32 u 15 h (by decide)
  rw [show (15 : Nat) = 2 ^ 4 - 1 by decide, Nat.and_two_pow_sub_one_eq_mod] at h
  exact h
set_option maxRecDepth 100000 in
set_option maxHeartbeats 1600000 in
theorem crc_any (s : ByteArray) (w : World) (he : Env w) (hs : s.size ≤ maxLen) :
    Calls Tryz.prog 100 #[.string s] w fun e w' => e = .returned (.int .u32 (crcL s.data.toList : Nat)) ∧ w = w' := by
  unfold maxLen at hs
  have HS := Lib.hid (size_data s)
  have HE := Lib.hid he
  clear he
  go_enter Tryz.func100, Tryz.ntmps100
  go_wp2
  go_loop [3, 4, 7] (fun s3 _ s7 => ∃ k v : Nat, k ≤ s.size ∧ s7 = .int .i64 k ∧ s3 = .int .u32 v ∧ v < 2 ^ 32 ∧ crcR 4294967295 (s.data.toList.take k) = v) (fun _ _ s7 => s.size - (Go.RowKit.intOf s7).toNat)
  case atStart => exact ⟨0, 4294967295, Nat.zero_le _, rfl, rfl, by decide, rfl⟩
  case round =>
    obtain ⟨k, v, hk, rfl, rfl, hv, hc⟩ := hrel
    have HV := Lib.hid hv
    have HC := Lib.hid hc
    clear hc
    by_cases hlt : k < s.size
    · have hz : (k : Int) < s.size := by omega
      have hb := (s[k]).toNat_lt
      have HX := Lib.hid (xor_u32 v (s[k]).toNat hv (by omega))
      have HT := Lib.hid (take_at (Lib.data_getElem? s k hlt))
      have hbz : ((s[k].toNat : Nat) : Int) < 256 := by omega
      obtain ⟨u, hu⟩ : ∃ u, u = v ^^^ (s[k]).toNat := ⟨_, rfl⟩
      have hul : u < 4294967296 := by rw [hu]; exact Nat.xor_lt_two_pow hv (show (s[k]).toNat < 2 ^ 32 by omega)
      have x1 : bits .xor .u32 (v : Int) ((s[k].toNat : Nat) : Int) = u := by rw [HX.out, hu]
      obtain ⟨i, hi⟩ : ∃ i, i = u % 16 := ⟨_, rfl⟩
      have hi16 : (i : Int) < 16 := by omega
      have a1 : bits .and .u32 (u : Int) 15 = i := by rw [and_15 u hul, hi]
      have c1 := HE.out.chk i (by omega)
      obtain ⟨t, ht⟩ : ∃ t, t = csts 4 u := ⟨_, rfl⟩
      have htl : t < 4294967296 := by rw [ht]; exact nib_lt u hul
      have x2 : bits .xor .u32 ((u : Int) / 16) ((csts 4 i : Nat) : Int) = t := by
        rw [show (u : Int) / 16 = ((u / 16 : Nat) : Int) by omega, xor_u32 _ _ (by omega) (nib_lt i (by omega)), hi, nib, ht]
      obtain ⟨j, hj⟩ : ∃ j, j = t % 16 := ⟨_, rfl⟩
      have hj16 : (j : Int) < 16 := by omega
      have a2 : bits .and .u32 (t : Int) 15 = j := by rw [and_15 t htl, hj]
      have c2 := HE.out.chk j (by omega)
      obtain ⟨r, hr⟩ : ∃ r, r = csts 4 t := ⟨_, rfl⟩
      have hrl : r < 4294967296 := by rw [hr]; exact nib_lt t htl
      have x3 : bits .xor .u32 ((t : Int) / 16) ((csts 4 j : Nat) : Int) = r := by
        rw [show (t : Int) / 16 = ((t / 16 : Nat) : Int) by omega, xor_u32 _ _ (by omega) (nib_lt j (by omega)), hj, nib, hr]
      have HCr : Hid (crcB v s[k] = r) := Lib.hid (by rw [hr, ht, hu, crcB_nib])
      have huz : (u : Int) < 4294967296 := by omega
      have htz : (t : Int) < 4294967296 := by omega
      have HRL := Lib.hid hrl
      clear hv hb hu hi ht hj hr hul htl hrl
      go_wp2_with fail
      go_round
      case rel => exact ⟨k + 1, r, by omega, by go_num, rfl, HRL.out, by rw [HT.out, crcR_snoc, HC.out, HCr.out]⟩
      case measure => simp [Go.RowKit.intOf]; omega
    · have hz : ¬ (k : Int) < s.size := by omega
      have HF : Hid (crcL s.data.toList = v ^^^ 4294967295) := Lib.hid (by
        unfold crcL
        rw [← HC.out, List.take_of_length_le (by rw [← HS.out]; omega)])
      have HX := Lib.hid (xor_u32 4294967295 v (by decide) hv)
      clear hv
      go_wp2_with fail
      go_ret
      exact ⟨by rw [HF.out, Nat.xor_comm]; exact congrArg (fun z => Ending.returned (Value.int .u32 z)) HX.out, rfl⟩
end HC
end Go.Proofs.YtfkaackhikbbkaaGreatDoor
end

section
/- Layer 5: the contracts of the program's written, read, sum. -/
namespace Go.Proofs.YtfkaackhikbbkaaGreatDoor
open Go.RowKit Go.Lib Go.BigFrame
namespace RF
open HP HS RP OM RQ HCr
open HC (Env crc_any)

theorem or_u32 (a b : Nat) (ha : a < 2 ^ 32) (hb : b < 2 ^ 32) : bits .or .u32 (a : Int) (b : Int) = ((a ||| b : Nat) : Int) := by
  have hx : a ||| b < 2 ^ 32 := Nat.or_lt_two_pow ha hb
  show IntKind.u32.wrap ((BitVec.ofInt 32 (a : Int) ||| BitVec.ofInt 32 (b : Int)).toNat : Int) = _
  rw [BitVec.toNat_or, ofInt_u32 a ha, ofInt_u32 b hb, wrap_u32 _ hx]
theorem or_add (a b i : Nat) (hb : b < 2 ^ i) : 2 ^ i * a ||| b = 2 ^ i * a + b := (Nat.two_pow_add_eq_or_of_lt hb a).symm
theorem or4 (a b c d : Nat) (ha : (a : Int) < 256) (hb : (b : Int) < 256) (hc : (c : Int) < 256) (hd : (d : Int) < 256) :
    bits .or .u32 ((a : Int) * 16777216) ((b : Int) * 65536) = ((a * 16777216 + b * 65536 : Nat) : Int) ∧
    bits .or .u32 ((a * 16777216 + b * 65536 : Nat) : Int) ((c : Int) * 256) = ((a * 16777216 + b * 65536 + c * 256 : Nat) : Int) ∧
    bits .or .u32 ((a * 16777216 + b * 65536 + c * 256 : Nat) : Int) (d : Int) = ((a * 16777216 + b * 65536 + c * 256 + d : Nat) : Int) := by
  refine ⟨?_, ?_, ?_⟩
  · rw [show (a : Int) * 16777216 = ((a * 16777216 : Nat) : Int) by omega, show (b : Int) * 65536 = ((b * 65536 : Nat) : Int) by omega, or_u32 _ _ (by omega) (by omega)]
    have := or_add a (b * 65536) 24 (by omega)
    rw [show a * 16777216 = 2 ^ 24 * a by omega, this]
  · rw [show (c : Int) * 256 = ((c * 256 : Nat) : Int) by omega, or_u32 _ _ (by omega) (by omega)]
    have := or_add (a * 256 + b) (c * 256) 16 (by omega)
    rw [show a * 16777216 + b * 65536 = 2 ^ 16 * (a * 256 + b) by omega, this]
  · rw [or_u32 _ _ (by omega) (by omega)]
    have := or_add (a * 65536 + b * 256 + c) d 8 (by omega)
    rw [show a * 16777216 + b * 65536 + c * 256 = 2 ^ 8 * (a * 65536 + b * 256 + c) by omega, this]
set_option maxRecDepth 100000 in
set_option maxHeartbeats 1600000 in
theorem written_any (n : Nat) (w : World) (hn : n < 4294967296) : Calls Tryz.prog 69 #[.int .u32 n] w fun r w' => r = .returned (.string ⟨(be4 n).toArray⟩) ∧ Below w.heap.size w w' := by
  have hz : (n : Int) < 4294967296 := by omega
  have hrow := heap_alloc_new w (.cells #[.int .u8 ((n : Int) / 16777216), .int .u8 ((n : Int) / 65536 % 256), .int .u8 ((n : Int) / 256 % 256), .int .u8 ((n : Int) % 256)] 5)
  have hcv : (convert 48 9 (.slice (some ⟨w.heap.size, 0, none⟩) 4 4)).run Tryz.prog (w.alloc (.cells #[.int .u8 ((n : Int) / 16777216), .int .u8 ((n : Int) / 65536 % 256), .int .u8 ((n : Int) / 256 % 256), .int .u8 ((n : Int) % 256)] 5)) = .ok (.string ⟨(be4 n).toArray⟩) (w.alloc (.cells #[.int .u8 ((n : Int) / 16777216), .int .u8 ((n : Int) / 65536 % 256), .int .u8 ((n : Int) / 256 % 256), .int .u8 ((n : Int) % 256)] 5)) :=
    run_convert_bytes_back (P := Tryz.prog) _ 48 9 5 ⟨w.heap.size, 0, none⟩ 4 (be4 n) Tryz.underlying48 Tryz.underlying5 Tryz.underlying9 (fun j hj => by
      have hadd : (⟨w.heap.size, 0, none⟩ : Addr).add j = ⟨w.heap.size, j, none⟩ := by unfold Addr.add; split <;> simp_all
      rw [hadd, cell_of_row _ _ j _ _ _ hrow]
      have h4 : j < 4 := by rw [be4_len] at hj; exact hj
      have e : ∀ m, (UInt8.ofNat (m % 256)).toNat = m % 256 := fun m => of_byte _ (Nat.mod_lt _ (by decide))
      simp only [be4_is]
      match j, h4 with
      | 0, _ => simp [e]; omega
      | 1, _ => simp [e]
      | 2, _ => simp [e]
      | 3, _ => simp [e])
  clear hrow
  go_enter Tryz.func69, Tryz.ntmps69
  go_wp2
  go_ret
  exact ⟨rfl, (Below.refl _ _).alloc (Nat.le_refl _) _⟩
set_option maxRecDepth 100000 in
set_option maxHeartbeats 1600000 in
theorem read_any (s : ByteArray) (w : World) (h : s.size = 4) : Calls Tryz.prog 101 #[.string s] w fun r w' => r = .returned (.int .u32 (num4 s.data.toList 0 : Nat)) ∧ Below w.heap.size w w' := by
  obtain ⟨x0, e0, l0, i0⟩ := RQ.byte_at s 0 (by omega) 0 rfl
  obtain ⟨x1, e1, l1, i1⟩ := RQ.byte_at s 1 (by omega) 1 rfl
  obtain ⟨x2, e2, l2, i2⟩ := RQ.byte_at s 2 (by omega) 2 rfl
  obtain ⟨x3, e3, l3, i3⟩ := RQ.byte_at s 3 (by omega) 3 rfl
  have HN : Hid (num4 s.data.toList 0 = x0 * 16777216 + x1 * 65536 + x2 * 256 + x3) := Lib.hid (by unfold num4; rw [e0, e1, e2, e3])
  obtain ⟨o1, o2, o3⟩ := or4 x0 x1 x2 x3 l0 l1 l2 l3
  rw [show ((x0 * 16777216 + x1 * 65536 : Nat) : Int) = (x0 : Int) * 16777216 + (x1 : Int) * 65536 by omega] at o1 o2
  rw [show ((x0 * 16777216 + x1 * 65536 + x2 * 256 : Nat) : Int) = (x0 : Int) * 16777216 + (x1 : Int) * 65536 + (x2 : Int) * 256 by omega] at o2 o3
  clear e0 e1 e2 e3 h
  go_enter Tryz.func101, Tryz.ntmps101
  go_wp2_with fail
  go_quiet (fail)
  rename_i nq
  have HB3 : Hid (Below w.heap.size w (w.drewN nq)) := Lib.hid ⟨rfl, rfl, rfl, Nat.le_refl _, fun _ _ => rfl⟩
  generalize w.drewN nq = w3 at HB3 ⊢
  go_wp2_with fail
  go_ret
  exact ⟨by rw [HN.out]; rfl, HB3.out⟩
end RF
end Go.Proofs.YtfkaackhikbbkaaGreatDoor
end

section
/- Layer 5: the contracts of the program's sum, Pack. -/
namespace Go.Proofs.YtfkaackhikbbkaaGreatDoor
open Go.RowKit Go.Lib Go.BigFrame
namespace RF
open HP HS RP OM RQ HCr
open HC (Env crc_any)

set_option maxRecDepth 100000 in
set_option maxHeartbeats 1600000 in
theorem sum_any (a b : List UInt8) (w : World) (he : Env w) (hm : a.length + b.length ≤ maxLen) :
    Calls Tryz.prog 70 #[txt a, txt b] w fun r w' => r = .returned (.int .u32 (crcL (a ++ b) : Nat)) ∧ w = w' := by
  unfold txt
  obtain ⟨TA, hTA⟩ : ∃ T : ByteArray, ⟨a.toArray⟩ = T := ⟨_, rfl⟩
  obtain ⟨TB, hTB⟩ : ∃ T : ByteArray, ⟨b.toArray⟩ = T := ⟨_, rfl⟩
  obtain ⟨TC, hTC⟩ : ∃ T : ByteArray, ⟨(a ++ b).toArray⟩ = T := ⟨_, rfl⟩
  have hcat : TA ++ TB = TC := by rw [← hTA, ← hTB, ← hTC]; exact bytes_app _ _
  have hcl : TA.size + TB.size ≤ 9223372036854775807 := by rw [← hTA, ← hTB, Lib.size_eq, Lib.size_eq]; unfold maxLen at hm; simpa using hm
  have hd : TC.data.toList = a ++ b := by rw [← hTC]
  have cC := crc_any TC w he (by rw [Lib.size_eq, hd, List.length_append]; exact hm)
  rw [hd] at cC
  have CC := Lib.hid cC
  rw [hTA, hTB]
  clear cC hd hTA hTB hTC hm he
  go_enter Tryz.func70, Tryz.ntmps70
  go_wp2_with (go_at_call 100; refine CC.out.mono ?_; rintro r w1 ⟨rfl, rfl⟩)
  go_ret
  exact ⟨rfl, rfl⟩
def packV (l : List UInt8) : Ending := .returned (.tuple #[txt (packT l), .int .i64 (packE l : Nat)])
set_option maxRecDepth 100000 in
set_option maxHeartbeats 1600000 in
theorem pack_any (l : List UInt8) (w : World) (he : Env w) (hm : l.length ≤ maxLen) :
    Calls Tryz.prog 36 #[txt l] w fun r w' => r = packV l ∧ Below w.heap.size w w' := by
  have hsz : (⟨l.toArray⟩ : ByteArray).size = l.length := by rw [Lib.size_eq]
  obtain ⟨T, hT⟩ : ∃ T : ByteArray, ⟨l.toArray⟩ = T := ⟨_, rfl⟩
  by_cases h : l.length ≤ MaxP
  · have e1 : packT l = packL l := by unfold packT; rw [if_pos h]
    have e2 : packE l = 0 := by unfold packE; rw [if_pos h]
    unfold MaxP at h
    obtain ⟨n, hn⟩ : ∃ n, l.length = n := ⟨_, rfl⟩
    obtain ⟨F, hF⟩ : ∃ F : List UInt8, be4 n = F := ⟨_, rfl⟩
    have hFl : F.length = 4 := by rw [← hF, be4_len]
    obtain ⟨c, hc⟩ : ∃ c, crcL (F ++ l) = c := ⟨_, rfl⟩
    obtain ⟨G, hG⟩ : ∃ G : List UInt8, be4 c = G := ⟨_, rfl⟩
    have hGl : G.length = 4 := by rw [← hG, be4_len]
    have hPL : packL l = F ++ G ++ l := by unfold packL; rw [hn, hF, hc, hG]
    obtain ⟨TF, hTF⟩ : ∃ T : ByteArray, ⟨F.toArray⟩ = T := ⟨_, rfl⟩
    obtain ⟨TG, hTG⟩ : ∃ T : ByteArray, ⟨G.toArray⟩ = T := ⟨_, rfl⟩
    obtain ⟨TFG, hTFG⟩ : ∃ T : ByteArray, ⟨(F ++ G).toArray⟩ = T := ⟨_, rfl⟩
    obtain ⟨TP, hTP⟩ : ∃ T : ByteArray, ⟨(F ++ G ++ l).toArray⟩ = T := ⟨_, rfl⟩
    have C1 : Hid (∀ W, Calls Tryz.prog 69 #[.int .u32 n] W fun r w' => r = .returned (.string TF) ∧ Below W.heap.size W w') := Lib.hid (fun W => by
      have h := written_any n W (by omega)
      rw [hF, hTF] at h
      exact h)
    have hcl := crcL_lt (F ++ l)
    rw [hc] at hcl
    have C2 : Hid (∀ W, Calls Tryz.prog 69 #[.int .u32 c] W fun r w' => r = .returned (.string TG) ∧ Below W.heap.size W w') := Lib.hid (fun W => by
      have h := written_any c W hcl
      rw [hG, hTG] at h
      exact h)
    have C3 : Hid (∀ W, Below w.heap.size w W → Calls Tryz.prog 70 #[.string TF, .string T] W fun r w' => r = .returned (.int .u32 c) ∧ Below W.heap.size W w') := Lib.hid (fun W hW => by
      have h := sum_any F l W (he.below hW) (by unfold maxLen; omega)
      unfold txt at h
      rw [hc, hTF, hT] at h
      exact h.mono fun r w' hh => ⟨hh.1, hh.2 ▸ Below.refl _ _⟩)
    have b2 : TF ++ TG = TFG := by rw [← hTF, ← hTG, ← hTFG]; exact bytes_app _ _
    have b3 : TFG ++ T = TP := by rw [← hTFG, ← hT, ← hTP]; exact bytes_app _ _
    have z1 : TF.size = 4 := by rw [← hTF, Lib.size_eq]; exact hFl
    have z2 : TG.size = 4 := by rw [← hTG, Lib.size_eq]; exact hGl
    have z3 : TFG.size = 8 := by rw [← hTFG, Lib.size_eq]; simp [hFl, hGl]
    have z4 : T.size = n := by rw [← hT, Lib.size_eq]; exact hn
    have hnz : ¬ (1048576 : Int) < n := by omega
    have hnz2 : (n : Int) < 4294967296 := by omega
    have hs1 : TF.size + TG.size ≤ 9223372036854775807 := by omega
    have hs2 : TFG.size + T.size ≤ 9223372036854775807 := by omega
    have HV : Hid (packV l = .returned (.tuple #[.string TP, .int .i64 0])) := Lib.hid (by unfold packV; rw [e1, e2, hPL]; unfold txt; rw [hTP]; rfl)
    unfold txt
    rw [hT]
    clear he hm hsz hT h e1 e2 hn hF hFl hc hG hGl hPL hTF hTG hTFG hTP hcl
    go_enter Tryz.func36, Tryz.ntmps36
    repeat (first | (go_at_call_of 69 (Value.int IntKind.u32 n); refine (C1.out _).mono ?_; rintro r w1 ⟨rfl, hb1⟩; simp only []; have HB1 := Lib.hid hb1; clear hb1) | (go_at_call_of 69 (Value.int IntKind.u32 c); refine (C2.out _).mono ?_; rintro r w2 ⟨rfl, hb2⟩; simp only []; have HB2 := Lib.hid hb2; clear hb2) | (go_at_call 70; refine (C3.out _ HB1.out).mono ?_; rintro r w3 ⟨rfl, hb3⟩; simp only []; have HB3 := Lib.hid (Below.trans HB1.out (hb3.mono HB1.out.size)); clear hb3) | go_skip | go_guarded | go_step | go_upon)
    go_ret2
    exact ⟨HV.out.symm, Below.trans HB3.out (HB2.out.mono HB3.out.size)⟩
  · have e1 : packT l = [] := by unfold packT; rw [if_neg h]
    have e2 : packE l = 32 := by unfold packE; rw [if_neg h]
    have HV : Hid (packV l = .returned (.tuple #[.string ⟨#[]⟩, .int .i64 32])) := Lib.hid (by unfold packV; rw [e1, e2]; rfl)
    unfold MaxP at h
    have hlz : ¬ (T.size : Int) ≤ 1048576 := by rw [← hT, hsz]; omega
    unfold maxLen at hm
    have hlm : (T.size : Int) ≤ 9223372036854775807 := by rw [← hT, hsz]; omega
    unfold txt
    rw [hT]
    clear he hm hsz hT h e1 e2
    go_enter Tryz.func36, Tryz.ntmps36
    go_wp2
    go_ret2
    exact ⟨by rw [HV.out]; rfl, Below.refl _ _⟩
end RF
end Go.Proofs.YtfkaackhikbbkaaGreatDoor
end

section
/- Layer 5: the contracts of the program's Next, One. -/
namespace Go.Proofs.YtfkaackhikbbkaaGreatDoor
open Go.RowKit Go.Lib Go.BigFrame
namespace RP
open HP HS
theorem num_sub (l : List UInt8) (k : Nat) : num4 ((l.drop k).take 4) 0 = num4 l k := by
  have e : ∀ j, j < 4 → ((l.drop k).take 4).getD j 0 = l.getD (k + j) 0 := fun j hj => by
    rw [List.getD_eq_getElem?_getD, List.getD_eq_getElem?_getD, List.getElem?_take_of_lt hj, List.getElem?_drop]
  unfold num4
  rw [e 0 (by decide), e (0 + 1) (by decide), e (0 + 2) (by decide), e (0 + 3) (by decide)]
  rfl
end RP
namespace RF
open HP HS RP OM RQ HCr
open HC (Env crc_any)

set_option maxRecDepth 100000 in
set_option maxHeartbeats 3200000 in
theorem next_any (l : List UInt8) (w : World) (he : Env w) (hm : l.length ≤ 9223372036854775807) :
    Calls Tryz.prog 73 #[txt l] w fun r w' => r = nextV l ∧ Below w.heap.size w w' := by
  obtain ⟨S, hS⟩ : ∃ S : ByteArray, ⟨l.toArray⟩ = S := ⟨_, rfl⟩
  have hSd : S.data.toList = l := by rw [← hS]
  obtain ⟨z, hz⟩ : ∃ z, l.length = z := ⟨_, rfl⟩
  have hSz : S.size = z := by rw [Lib.size_eq, hSd]; exact hz
  unfold txt
  rw [hS]
  by_cases h8 : z < 8
  · have hV : nextL l = (50, [], []) := by unfold nextL; rw [if_pos (by omega)]
    have HV : Hid (nextV l = .returned (.tuple #[.string ⟨#[]⟩, .string ⟨#[]⟩, .int .i64 50])) := Lib.hid (by unfold nextV; rw [hV]; rfl)
    have h8z : (z : Int) < 8 := by omega
    clear hV hS hSd hz he
    go_enter Tryz.func73, Tryz.ntmps73
    repeat (first | go_skip | go_guarded | go_step | go_upon)
    go_ret3
    exact ⟨by rw [HV.out]; rfl, Below.refl _ _⟩
  · obtain ⟨n, hn⟩ : ∃ n, num4 l 0 = n := ⟨_, rfl⟩
    have hnl : n < 4294967296 := by rw [← hn]; exact num_lt l 0
    obtain ⟨m, hm4⟩ : ∃ m, num4 l 4 = m := ⟨_, rfl⟩
    have hml : m < 4294967296 := by rw [← hm4]; exact num_lt l 4
    obtain ⟨F, hF⟩ : ∃ F, l.take 4 = F := ⟨_, rfl⟩
    obtain ⟨M, hM⟩ : ∃ M, (l.drop 4).take 4 = M := ⟨_, rfl⟩
    obtain ⟨B, hB⟩ : ∃ B, l.drop 8 = B := ⟨_, rfl⟩
    obtain ⟨TF, hTF⟩ : ∃ T : ByteArray, ⟨F.toArray⟩ = T := ⟨_, rfl⟩
    obtain ⟨TM, hTM⟩ : ∃ T : ByteArray, ⟨M.toArray⟩ = T := ⟨_, rfl⟩
    obtain ⟨TB, hTB⟩ : ∃ T : ByteArray, ⟨B.toArray⟩ = T := ⟨_, rfl⟩
    have hFl : F.length = 4 := by rw [← hF, List.length_take]; omega
    have hMl : M.length = 4 := by rw [← hM, List.length_take, List.length_drop]; omega
    obtain ⟨q, hq⟩ : ∃ q, z = q + 8 := ⟨z - 8, by omega⟩
    have hBl : B.length = q := by rw [← hB, List.length_drop]; omega
    have hTBd : TB.data.toList = B := by rw [← hTB]
    have hTBz : TB.size = q := by rw [Lib.size_eq, hTBd]; exact hBl
    have s1 := sl_to S 4 4 rfl (by omega)
    have s2 := sl_mid S 4 8 4 8 rfl rfl (by omega) (by omega)
    have s3 := sl_from S 8 8 rfl (by omega)
    rw [hSd, hF, hTF] at s1
    rw [hSd, show 8 - 4 = 4 from rfl, hM, hTM] at s2
    rw [hSd, hB, hTB] at s3
    have C1 : Hid (∀ W, Calls Tryz.prog 101 #[.string TF] W fun r w' => r = .returned (.int .u32 n) ∧ Below W.heap.size W w') := Lib.hid (fun W => by
      have h := read_any TF W (by rw [← hTF, Lib.size_eq]; exact hFl)
      have e : TF.data.toList = F := by rw [← hTF]
      have e2 := num_sub l 0
      rw [List.drop_zero, hF, hn] at e2
      rw [e, e2] at h
      exact h)
    have C2 : Hid (∀ W, Calls Tryz.prog 101 #[.string TM] W fun r w' => r = .returned (.int .u32 m) ∧ Below W.heap.size W w') := Lib.hid (fun W => by
      have h := read_any TM W (by rw [← hTM, Lib.size_eq]; exact hMl)
      have e : TM.data.toList = M := by rw [← hTM]
      have e2 := num_sub l 4
      rw [hM, hm4] at e2
      rw [e, e2] at h
      exact h)
    have h8z : ¬ (z : Int) < 8 := by omega
    have hnz : (n : Int) < 4294967296 := by omega
    have hmz : (m : Int) < 4294967296 := by omega
    have HC := Lib.hid hq
    clear hq
    go_enter Tryz.func73, Tryz.ntmps73
    repeat (first | go_skip | go_guarded | go_step | go_upon)
    have D2 := Lib.hid (reg_of (w := w) (fun W _ => C2.out W))
    with_reducible refine wp_region_quiet_below (by kernel_rfl) (by kernel_rfl) ?_
    repeat (go_big_quiet_step (first | (go_at_call 101; exact D2.out _ _)))
    refine wpQuiet_nil ?_
    intro _ hw'
    obtain ⟨⟨dq, osq⟩, hw''⟩ := hw'
    subst hw''
    have HB1 : Hid (Below w.heap.size w (Go.Sort.grow (redrawn w dq) osq)) := Lib.hid (below_regrown w dq osq)
    generalize Go.Sort.grow (redrawn w dq) osq = w1 at HB1 ⊢
    by_cases h1 : MaxP < n
    · have hV : nextL l = (32, [], []) := by unfold nextL; rw [if_neg (by omega), hn, if_pos h1]
      have HV : Hid (nextV l = .returned (.tuple #[.string ⟨#[]⟩, .string ⟨#[]⟩, .int .i64 32])) := Lib.hid (by unfold nextV; rw [hV]; rfl)
      have h1z : (1048576 : Int) < n := by unfold MaxP at h1; omega
      clear hV hS hSd hz he hn hnl hm4 hml hF hM hB hTF hTM hTB hFl hMl hBl hTBd hTBz
      repeat (first | (go_at_call_of 101 (Value.string TF); refine (C1.out _).mono ?_; rintro r w2 ⟨rfl, hb2⟩; simp only []; have HB2 := Lib.hid (Below.trans HB1.out (hb2.mono HB1.out.size)); clear hb2) | go_skip | go_guarded | go_step | go_upon)
      go_ret3
      exact ⟨by rw [HV.out]; rfl, HB2.out⟩
    · have h1z : ¬ (1048576 : Int) < n := by unfold MaxP at h1; omega
      by_cases h2 : q < n
      · have hV : nextL l = (50, [], []) := by unfold nextL; rw [if_neg (by omega), hn, if_neg h1, hz, if_pos (by have := HC.out; omega)]
        have HV : Hid (nextV l = .returned (.tuple #[.string ⟨#[]⟩, .string ⟨#[]⟩, .int .i64 50])) := Lib.hid (by unfold nextV; rw [hV]; rfl)
        have h2z : (q : Int) < n := by omega
        clear hV hS hSd hz he hn hnl hm4 hml hF hM hB hTF hTM hTB hFl hMl hBl hTBd
        repeat (first | (go_at_call_of 101 (Value.string TF); refine (C1.out _).mono ?_; rintro r w2 ⟨rfl, hb2⟩; simp only []; have HB2 := Lib.hid (Below.trans HB1.out (hb2.mono HB1.out.size)); clear hb2 HB1; have HB1 := HB2) | go_skip | go_guarded | go_step | go_upon)
        go_ret3
        exact ⟨by rw [HV.out]; rfl, HB2.out⟩
      · have h2z : ¬ (q : Int) < n := by omega
        obtain ⟨P, hP⟩ : ∃ P, B.take n = P := ⟨_, rfl⟩
        obtain ⟨R, hR⟩ : ∃ R, B.drop n = R := ⟨_, rfl⟩
        obtain ⟨TP, hTP⟩ : ∃ T : ByteArray, ⟨P.toArray⟩ = T := ⟨_, rfl⟩
        obtain ⟨TR, hTR⟩ : ∃ T : ByteArray, ⟨R.toArray⟩ = T := ⟨_, rfl⟩
        have s4 := sl_to TB n n rfl (by omega)
        have s5 := sl_from TB n n rfl (by omega)
        rw [hTBd, hP, hTP] at s4
        rw [hTBd, hR, hTR] at s5
        obtain ⟨c, hc⟩ : ∃ c, crcL (F ++ P) = c := ⟨_, rfl⟩
        have hcz : (c : Int) < 4294967296 := by have := crcL_lt (F ++ P); omega
        have C3 : Hid (∀ W, Below w.heap.size w W → Calls Tryz.prog 70 #[.string TF, .string TP] W fun r w' => r = .returned (.int .u32 c) ∧ W = w') := Lib.hid (fun W hW => by
          have h := sum_any F P W (he.below hW) (by rw [← hP, List.length_take]; unfold maxLen; omega)
          unfold txt at h
          rw [hc, hTF, hTP] at h
          exact h)
        have hB2 : (l.drop 8).take n = P := by rw [hB, hP]
        have hR2 : l.drop (8 + n) = R := by rw [← hR, ← hB, List.drop_drop]
        by_cases hmc : m = c
        · have HV : Hid (nextV l = .returned (.tuple #[.string TP, .string TR, .int .i64 0])) := Lib.hid (by
            unfold nextV nextL
            rw [if_neg (by omega), hn, if_neg h1, hz, if_neg (by have := HC.out; omega), hm4, hF, hB2, hR2, hc, if_pos hmc, ← hTP, ← hTR]
            rfl)
          have hmcz : ((c : Int) != (m : Int)) = false := by rw [hmc]; simp
          clear hS hSd hz he hn hnl hm4 hml hF hM hB hTF hTM hTB hFl hMl hBl hTBd hP hR hTP hTR hc hB2 hR2 hmc
          repeat (first | (go_at_call_of 101 (Value.string TF); refine (C1.out _).mono ?_; rintro r w2 ⟨rfl, hb2⟩; simp only []; have HB2 := Lib.hid (Below.trans HB1.out (hb2.mono HB1.out.size)); clear hb2 HB1; have HB1 := HB2) | (go_at_call 70; refine (C3.out _ HB1.out).mono ?_; rintro r w2 ⟨rfl, rfl⟩; simp only []) | go_skip | go_guarded | go_step | go_upon)
          go_quiet (fail)
          rename_i nq
          have HB3 : Hid (Below w.heap.size w (w2.drewN nq)) := Lib.hid ⟨HB1.out.os, HB1.out.tape, HB1.out.output, HB1.out.size, HB1.out.block⟩
          generalize w2.drewN nq = w3 at HB3 ⊢
          repeat (first | go_skip | go_guarded | go_step | go_upon)
          go_ret3
          exact ⟨HV.out.symm, HB3.out⟩
        · have HV : Hid (nextV l = .returned (.tuple #[.string ⟨#[]⟩, .string ⟨#[]⟩, .int .i64 51])) := Lib.hid (by
            unfold nextV nextL
            rw [if_neg (by omega), hn, if_neg h1, hz, if_neg (by have := HC.out; omega), hm4, hF, hB2, hc, if_neg hmc]
            rfl)
          have hmcz : ((c : Int) != (m : Int)) = true := by simp; omega
          clear hS hSd hz he hn hnl hm4 hml hF hM hB hTF hTM hTB hFl hMl hBl hTBd hP hR hTP hTR hc hB2 hR2 hmc
          repeat (first | (go_at_call_of 101 (Value.string TF); refine (C1.out _).mono ?_; rintro r w2 ⟨rfl, hb2⟩; simp only []; have HB2 := Lib.hid (Below.trans HB1.out (hb2.mono HB1.out.size)); clear hb2 HB1; have HB1 := HB2) | (go_at_call 70; refine (C3.out _ HB1.out).mono ?_; rintro r w2 ⟨rfl, rfl⟩; simp only []) | go_skip | go_guarded | go_step | go_upon)
          go_ret3
          exact ⟨by rw [HV.out]; rfl, HB1.out⟩
set_option maxRecDepth 100000 in
set_option maxHeartbeats 1600000 in
theorem one_any (l : List UInt8) (w : World) (he : Env w) (hm : l.length ≤ 9223372036854775807) :
    Calls Tryz.prog 41 #[txt l] w fun r w' => r = oneV l ∧ Below w.heap.size w w' := by
  have cN := next_any l w he hm
  unfold nextV at cN
  unfold txt at cN ⊢
  rcases next_cases l with ⟨p, r, hn⟩ | ⟨e, hn, he⟩
  · rw [hn] at cN
    simp only at cN
    cases r with
    | nil =>
      have HV : Hid (oneV l = .returned (.tuple #[txt p, .int .i64 0])) := Lib.hid (by unfold oneV oneL; rw [hn]; rfl)
      have CN := Lib.hid cN
      clear cN hn he
      go_enter Tryz.func41, Tryz.ntmps41
      repeat (first | (go_at_call 73; refine CN.out.mono ?_; rintro r w1 ⟨rfl, hb1⟩; simp only []; have HB1 := Lib.hid hb1; clear hb1) | go_skip | go_guarded | go_step | go_upon)
      go_ret2
      exact ⟨HV.out.symm, HB1.out⟩
    | cons x r =>
      have HV : Hid (oneV l = .returned (.tuple #[.string ⟨#[]⟩, .int .i64 32])) := Lib.hid (by unfold oneV oneL; rw [hn]; rfl)
      have CN := Lib.hid cN
      obtain ⟨T, hT⟩ : ∃ T : ByteArray, ⟨(x :: r).toArray⟩ = T := ⟨_, rfl⟩
      have hTe : T.toList.isEmpty = false := by rw [← hT, Lib.toList_data]; rfl
      rw [hT] at CN
      clear cN hn hT he
      go_enter Tryz.func41, Tryz.ntmps41
      repeat (first | (go_at_call 73; refine CN.out.mono ?_; rintro r w1 ⟨rfl, hb1⟩; simp only []; have HB1 := Lib.hid hb1; clear hb1) | go_skip | go_guarded | go_step | go_upon)
      go_ret2
      exact ⟨by rw [HV.out]; rfl, HB1.out⟩
  · rw [hn] at cN
    simp only at cN
    have HV : Hid (oneV l = .returned (.tuple #[.string ⟨#[]⟩, .int .i64 ((e + 1 : Nat) : Int)])) := Lib.hid (by unfold oneV oneL; rw [hn]; rfl)
    obtain ⟨z, hz⟩ : ∃ z : Int, ((e + 1 : Nat) : Int) = z := ⟨_, rfl⟩
    have hz0 : (z != 0) = true := by simp; omega
    have hz1 : z ≠ 0 := by omega
    rw [hz] at HV cN
    have CN := Lib.hid cN
    clear cN hn hz
    go_enter Tryz.func41, Tryz.ntmps41
    repeat (first | (go_at_call 73; refine CN.out.mono ?_; rintro r w1 ⟨rfl, hb1⟩; simp only []; have HB1 := Lib.hid hb1; clear hb1) | go_skip | go_guarded | go_step | go_upon)
    go_ret2
    exact ⟨HV.out.symm, HB1.out⟩
end RF
end Go.Proofs.YtfkaackhikbbkaaGreatDoor
end
