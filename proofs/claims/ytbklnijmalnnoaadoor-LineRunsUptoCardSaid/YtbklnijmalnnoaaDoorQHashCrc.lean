/- The check sum alone (for the layers above hash): what the program's table holds (Env), and the contracts of the program's Crc and of the document's. -/
import Derived.Test.YtbklnijmalnnoaaDoorQHashPlain
import Derived.Test.YtbklnijmalnnoaaDoorChecked
import Derived.WalkKit
import Derived.WalkMore
import Derived.IntWalk
import Derived.Below
import Derived.OwnWalk
import Derived.Lib.Hide
import Derived.Lib.IndexBytes
import Derived.Laws.BitsAllLaws
import Derived.Laws.ShiftsVar
import Derived.Laws.ShiftsVarLaws
set_option linter.all false
set_option maxRecDepth 100000
set_option maxHeartbeats 25600000
namespace Go.Proofs.YtbklnijmalnnoaaDoor
open Go.RowKit Go.Lib
namespace HR
open HP

theorem ofInt_u32 (a : Nat) (ha : a < 2 ^ 32) : (BitVec.ofInt 32 (a : Int)).toNat = a := by
  rw [BitVec.ofInt_natCast, BitVec.toNat_ofNat]; exact Nat.mod_eq_of_lt (by omega)
theorem wrap_u32 (n : Nat) (h : n < 2 ^ 32) : IntKind.u32.wrap (n : Int) = n := by
  simp [IntKind.wrap, IntKind.bits, IntKind.signed]
  omega
theorem xor_u32 (a b : Nat) (ha : a < 2 ^ 32) (hb : b < 2 ^ 32) : bits .xor .u32 (a : Int) (b : Int) = ((a ^^^ b : Nat) : Int) := by
  have hx : a ^^^ b < 2 ^ 32 := Nat.xor_lt_two_pow ha hb
  show IntKind.u32.wrap ((BitVec.ofInt 32 (a : Int) ^^^ BitVec.ofInt 32 (b : Int)).toNat : Int) = _
  rw [BitVec.toNat_xor, ofInt_u32 a ha, ofInt_u32 b hb, wrap_u32 _ hx]
theorem size_data (s : ByteArray) : s.size = s.data.toList.length := Lib.size_eq s
theorem take_at {l : List UInt8} {k : Nat} {b : UInt8} (h : l[k]? = some b) : l.take (k + 1) = l.take k ++ [b] := by
  rw [List.take_add_one, h]
  rfl
theorem crcR_snoc (v : Nat) (l : List UInt8) (b : UInt8) : crcR v (l ++ [b]) = crcB (crcR v l) b := by rw [crcR_app]; rfl
set_option maxRecDepth 100000 in
set_option maxHeartbeats 1600000 in
theorem rcrc_any (s : ByteArray) (w : World) (hs : s.size ≤ maxLen) :
    Calls Tryd.prog 24 #[.string s] w fun e w' => e = .returned (.int .u32 (crcL s.data.toList : Nat)) ∧ w = w' := by
  unfold maxLen at hs
  have HS := Lib.hid (size_data s)
  go_enter Tryd.func24, Tryd.ntmps24
  go_wp2
  go_loop [3, 4] (fun s3 s4 => ∃ k v : Nat, k ≤ s.size ∧ s4 = .int .i64 k ∧ s3 = .int .u32 v ∧ v < 2 ^ 32 ∧ crcR 4294967295 (s.data.toList.take k) = v) (fun _ s4 => s.size - (Go.RowKit.intOf s4).toNat)
  case atStart => exact ⟨0, 4294967295, Nat.zero_le _, rfl, rfl, by decide, rfl⟩
  case round =>
    obtain ⟨k, v, hk, rfl, rfl, hv, hc⟩ := hrel
    have HV := Lib.hid hv
    have HC := Lib.hid hc
    clear hc
    by_cases hlt : k < s.size
    · have hz : (k : Int) < s.size := by omega
      have hb := (s[k]).toNat_lt
      have HX := Lib.hid (xor_u32 v (s[k]).toNat hv (by omega))
      have HT := Lib.hid (take_at (Lib.data_getElem? s k hlt))
      have hlt2 := Nat.xor_lt_two_pow hv (show (s[k]).toNat < 2 ^ 32 by omega)
      have HL2 := Lib.hid hlt2
      have hbz : ((s[k].toNat : Nat) : Int) < 256 := by omega
      clear hv hb hlt2
      go_wp2_with fail
      go_loop [3, 5] (fun s3 s5 => ∃ j u : Nat, j ≤ 8 ∧ s5 = .int .i64 j ∧ s3 = .int .u32 u ∧ u < 2 ^ 32 ∧ csts (8 - j) u = crcB v s[k]) (fun _ s5 => 8 - (Go.RowKit.intOf s5).toNat)
      case atStart => exact ⟨0, v ^^^ (s[k]).toNat, by omega, rfl, by rw [HX.out], HL2.out, rfl⟩
      case round =>
        obtain ⟨j, u, hj, rfl, rfl, hu, hcs⟩ := hrel
        by_cases hj8 : j < 8
        · have hjz : (j : Int) < 8 := by omega
          have hu32 : (u : Int) < 4294967296 := by omega
          have hstep : csts (8 - (j + 1)) (cst u) = crcB v s[k] := by
            rw [← hcs, show 8 - j = (8 - (j + 1)) + 1 by omega]
            rfl
          have HSt := Lib.hid hstep
          have HU := Lib.hid (cst_lt hu)
          by_cases hp : u % 2 = 1
          · have hpz : ((u : Int) % 2 == 1) = true := by simp; omega
            have HX2 := Lib.hid (xor_u32 (u / 2) 3988292384 (by omega) (by decide))
            have HE : Hid (cst u = u / 2 ^^^ 3988292384) := Lib.hid (by unfold cst; rw [if_pos hp])
            clear hcs hstep hu
            go_wp2_with fail
            go_round
            case rel => exact ⟨j + 1, cst u, by omega, by go_num, by rw [HE.out]; exact congrArg _ HX2.out, HU.out, HSt.out⟩
            case measure => simp [Go.RowKit.intOf]; omega
          · have hpz : ((u : Int) % 2 == 1) = false := by simp; omega
            have HE : Hid (cst u = u / 2) := Lib.hid (by unfold cst; rw [if_neg hp])
            clear hcs hstep hu
            go_wp2_with fail
            go_round
            case rel => exact ⟨j + 1, cst u, by omega, by go_num, by rw [HE.out]; go_num, HU.out, HSt.out⟩
            case measure => simp [Go.RowKit.intOf]; omega
        · have hjz : ¬ (j : Int) < 8 := by omega
          have hj0 : j = 8 := by omega
          subst hj0
          have hcu : u = crcB v s[k] := hcs
          have HCu := Lib.hid hcu
          clear hcs hcu
          go_wp2_with fail
          go_round
          case rel => exact ⟨k + 1, u, by omega, by go_num, rfl, hu, by rw [HT.out, crcR_snoc, HC.out, HCu.out]⟩
          case measure => simp [Go.RowKit.intOf]; omega
    · have hz : ¬ (k : Int) < s.size := by omega
      have HX := Lib.hid (xor_u32 v 4294967295 hv (by decide))
      have HF : Hid (crcL s.data.toList = v ^^^ 4294967295) := Lib.hid (by
        unfold crcL
        rw [← HC.out, List.take_of_length_le (by rw [← HS.out]; omega)])
      clear hv
      go_wp2_with fail
      go_ret
      exact ⟨by rw [HF.out]; exact congrArg (fun z => Ending.returned (Value.int .u32 z)) HX.out, rfl⟩
theorem and_u32 (a b : Nat) (ha : a < 2 ^ 32) (hb : b < 2 ^ 32) : bits .and .u32 (a : Int) (b : Int) = ((a &&& b : Nat) : Int) := by
  have hx : a &&& b < 2 ^ 32 := Nat.lt_of_le_of_lt Nat.and_le_left ha
  show IntKind.u32.wrap ((BitVec.ofInt 32 (a : Int) &&& BitVec.ofInt 32 (b : Int)).toNat : Int) = _
  rw [BitVec.toNat_and, ofInt_u32 a ha, ofInt_u32 b hb, wrap_u32 _ hx]
end HR
namespace HQ
open HP HR
/-- The program's table of the check sum, as it lies in memory. -/
structure Env (w : World) : Prop where
  chk : ∀ i : Nat, i < 16 → w.cell? ⟨0, i, none⟩ = some (.int .u32 (csts 4 i : Nat))
theorem Env.below {w w' : World} (h : Env w) (hb : Below w.heap.size w w') : Env w' :=
  ⟨fun i hi => by rw [hb.cell (World.block_lt_of_cell? _ _ (h.chk i hi))]; exact h.chk i hi⟩
theorem nib (u : Nat) : u / 16 ^^^ csts 4 (u % 16) = csts 4 u := by
  have e : u = (u / 16 * 2 ^ 4) ^^^ (u % 16) := by
    have h := Nat.two_pow_add_eq_or_of_lt (i := 4) (b := u % 16) (by omega) (u / 16)
    have h2 : (2 ^ 4 * (u / 16)) ^^^ (u % 16) = (2 ^ 4 * (u / 16)) ||| (u % 16) := by
      apply Nat.eq_of_testBit_eq
      intro j
      rw [Nat.testBit_xor, Nat.testBit_or, Nat.testBit_two_pow_mul]
      by_cases hj : 4 ≤ j
      · have : (u % 16).testBit j = false := Nat.testBit_lt_two_pow (Nat.lt_of_lt_of_le (show u % 16 < 2 ^ 4 by omega) (Nat.pow_le_pow_right (by decide) hj))
        simp [this]
      · simp [hj]
    rw [Nat.mul_comm, h2, ← h]
    omega
  conv => rhs; rw [e, csts_xor, csts_shift]
theorem nib_lt (u : Nat) (h : u < 4294967296) : csts 4 u < 4294967296 := csts_lt 4 h
theorem crcB_nib (v : Nat) (b : UInt8) : csts 4 (csts 4 (v ^^^ b.toNat)) = crcB v b := csts_add 4 4 _
theorem and_15 (u : Nat) (h : u < 4294967296) : bits .and .u32 (u : Int) 15 = ((u % 16 : Nat) : Int) := by
  have h := and_u32 u 15 h (by decide)
  rw [show (15 : Nat) = 2 ^ 4 - 1 by decide, Nat.and_two_pow_sub_one_eq_mod] at h
  exact h
set_option maxRecDepth 100000 in
set_option maxHeartbeats 1600000 in
theorem crc_any (s : ByteArray) (w : World) (he : Env w) (hs : s.size ≤ maxLen) :
    Calls Tryd.prog 34 #[.string s] w fun e w' => e = .returned (.int .u32 (crcL s.data.toList : Nat)) ∧ w = w' := by
  unfold maxLen at hs
  have HS := Lib.hid (size_data s)
  have HE := Lib.hid he
  clear he
  go_enter Tryd.func34, Tryd.ntmps34
  go_wp2
  go_loop [3, 4, 7] (fun s3 _ s7 => ∃ k v : Nat, k ≤ s.size ∧ s7 = .int .i64 k ∧ s3 = .int .u32 v ∧ v < 2 ^ 32 ∧ crcR 4294967295 (s.data.toList.take k) = v) (fun _ _ s7 => s.size - (Go.RowKit.intOf s7).toNat)
  case atStart => exact ⟨0, 4294967295, Nat.zero_le _, rfl, rfl, by decide, rfl⟩
  case round =>
    obtain ⟨k, v, hk, rfl, rfl, hv, hc⟩ := hrel
    have HV := Lib.hid hv
    have HC := Lib.hid hc
    clear hc
    by_cases hlt : k < s.size
    · have hz : (k : Int) < s.size := by omega
      have hb := (s[k]).toNat_lt
      have HX := Lib.hid (xor_u32 v (s[k]).toNat hv (by omega))
      have HT := Lib.hid (take_at (Lib.data_getElem? s k hlt))
      have hbz : ((s[k].toNat : Nat) : Int) < 256 := by omega
      obtain ⟨u, hu⟩ : ∃ u, u = v ^^^ (s[k]).toNat := ⟨_, rfl⟩
      have hul : u < 4294967296 := by rw [hu]; exact Nat.xor_lt_two_pow hv (show (s[k]).toNat < 2 ^ 32 by omega)
      have x1 : bits .xor .u32 (v : Int) ((s[k].toNat : Nat) : Int) = u := by rw [HX.out, hu]
      obtain ⟨i, hi⟩ : ∃ i, i = u % 16 := ⟨_, rfl⟩
      have hi16 : (i : Int) < 16 := by omega
      have a1 : bits .and .u32 (u : Int) 15 = i := by rw [and_15 u hul, hi]
      have c1 := HE.out.chk i (by omega)
      obtain ⟨t, ht⟩ : ∃ t, t = csts 4 u := ⟨_, rfl⟩
      have htl : t < 4294967296 := by rw [ht]; exact nib_lt u hul
      have x2 : bits .xor .u32 ((u : Int) / 16) ((csts 4 i : Nat) : Int) = t := by
        rw [show (u : Int) / 16 = ((u / 16 : Nat) : Int) by omega, xor_u32 _ _ (by omega) (nib_lt i (by omega)), hi, nib, ht]
      obtain ⟨j, hj⟩ : ∃ j, j = t % 16 := ⟨_, rfl⟩
      have hj16 : (j : Int) < 16 := by omega
      have a2 : bits .and .u32 (t : Int) 15 = j := by rw [and_15 t htl, hj]
      have c2 := HE.out.chk j (by omega)
      obtain ⟨r, hr⟩ : ∃ r, r = csts 4 t := ⟨_, rfl⟩
      have hrl : r < 4294967296 := by rw [hr]; exact nib_lt t htl
      have x3 : bits .xor .u32 ((t : Int) / 16) ((csts 4 j : Nat) : Int) = r := by
        rw [show (t : Int) / 16 = ((t / 16 : Nat) : Int) by omega, xor_u32 _ _ (by omega) (nib_lt j (by omega)), hj, nib, hr]
      have HR : Hid (crcB v s[k] = r) := Lib.hid (by rw [hr, ht, hu, crcB_nib])
      have huz : (u : Int) < 4294967296 := by omega
      have htz : (t : Int) < 4294967296 := by omega
      have HRL := Lib.hid hrl
      clear hv hb hu hi ht hj hr hul htl hrl
      go_wp2_with fail
      go_round
      case rel => exact ⟨k + 1, r, by omega, by go_num, rfl, HRL.out, by rw [HT.out, crcR_snoc, HC.out, HR.out]⟩
      case measure => simp [Go.RowKit.intOf]; omega
    · have hz : ¬ (k : Int) < s.size := by omega
      have HF : Hid (crcL s.data.toList = v ^^^ 4294967295) := Lib.hid (by
        unfold crcL
        rw [← HC.out, List.take_of_length_le (by rw [← HS.out]; omega)])
      have HX := Lib.hid (xor_u32 4294967295 v (by decide) hv)
      clear hv
      go_wp2_with fail
      go_ret
      exact ⟨by rw [HF.out, Nat.xor_comm]; exact congrArg (fun z => Ending.returned (Value.int .u32 z)) HX.out, rfl⟩
end HQ
end Go.Proofs.YtbklnijmalnnoaaDoor
