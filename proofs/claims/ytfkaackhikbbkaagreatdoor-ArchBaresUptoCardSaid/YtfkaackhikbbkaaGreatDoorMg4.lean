/- Texts of this seat, put one behind the other: what its statements share (part 4). -/
import Derived.Test.YtfkaackhikbbkaaGreatDoorMg1
import Derived.Test.YtfkaackhikbbkaaGreatDoorChecked
import Derived.WalkKit
import Derived.WalkMore
import Derived.IntWalk
import Derived.Below
import Derived.OwnWalk
import Derived.Lib.Hide
import Derived.Lib.IndexBytes
import Derived.Laws.BitsAllLaws
import Derived.Lib.QuietBelow
import Derived.BigQuiet
import Derived.Laws.OwnMore
import Derived.ArgAppend
import Derived.Laws.MathBits
import Derived.Laws.ShiftsVar
import Derived.Laws.ShiftsVarLaws
import Derived.Deep.WholeRow
import Derived.RegionTactic
import Derived.Deep.RegionWith
import Derived.Deep.RegionHeld3
import Derived.BigRegion
section
/- Layer 4: the contracts of the document's Crc, Weak and Roll. -/
namespace Go.Proofs.YtfkaackhikbbkaaGreatDoor
open Go.RowKit Go.Lib
namespace HR
open HP

theorem ofInt_u32 (a : Nat) (ha : a < 2 ^ 32) : (BitVec.ofInt 32 (a : Int)).toNat = a := by
  rw [BitVec.ofInt_natCast, BitVec.toNat_ofNat]; exact Nat.mod_eq_of_lt (by omega)
theorem wrap_u32 (n : Nat) (h : n < 2 ^ 32) : IntKind.u32.wrap (n : Int) = n := by
  simp [IntKind.wrap, IntKind.bits, IntKind.signed]
  omega
theorem xor_u32 (a b : Nat) (ha : a < 2 ^ 32) (hb : b < 2 ^ 32) : bits .xor .u32 (a : Int) (b : Int) = ((a ^^^ b : Nat) : Int) := by
  have hx : a ^^^ b < 2 ^ 32 := Nat.xor_lt_two_pow ha hb
  show IntKind.u32.wrap ((BitVec.ofInt 32 (a : Int) ^^^ BitVec.ofInt 32 (b : Int)).toNat : Int) = _
  rw [BitVec.toNat_xor, ofInt_u32 a ha, ofInt_u32 b hb, wrap_u32 _ hx]
theorem size_data (s : ByteArray) : s.size = s.data.toList.length := Lib.size_eq s
theorem take_at {l : List UInt8} {k : Nat} {b : UInt8} (h : l[k]? = some b) : l.take (k + 1) = l.take k ++ [b] := by
  rw [List.take_add_one, h]
  rfl
theorem crcR_snoc (v : Nat) (l : List UInt8) (b : UInt8) : crcR v (l ++ [b]) = crcB (crcR v l) b := by rw [crcR_app]; rfl
set_option maxRecDepth 100000 in
set_option maxHeartbeats 1600000 in
theorem rcrc_any (s : ByteArray) (w : World) (hs : s.size ≤ maxLen) :
    Calls Tryz.prog 72 #[.string s] w fun e w' => e = .returned (.int .u32 (crcL s.data.toList : Nat)) ∧ w = w' := by
  unfold maxLen at hs
  have HS := Lib.hid (size_data s)
  go_enter Tryz.func72, Tryz.ntmps72
  go_wp2
  go_loop [3, 4] (fun s3 s4 => ∃ k v : Nat, k ≤ s.size ∧ s4 = .int .i64 k ∧ s3 = .int .u32 v ∧ v < 2 ^ 32 ∧ crcR 4294967295 (s.data.toList.take k) = v) (fun _ s4 => s.size - (Go.RowKit.intOf s4).toNat)
  case atStart => exact ⟨0, 4294967295, Nat.zero_le _, rfl, rfl, by decide, rfl⟩
  case round =>
    obtain ⟨k, v, hk, rfl, rfl, hv, hc⟩ := hrel
    have HV := Lib.hid hv
    have HC := Lib.hid hc
    clear hc
    by_cases hlt : k < s.size
    · have hz : (k : Int) < s.size := by omega
      have hb := (s[k]).toNat_lt
      have HX := Lib.hid (xor_u32 v (s[k]).toNat hv (by omega))
      have HT := Lib.hid (take_at (Lib.data_getElem? s k hlt))
      have hlt2 := Nat.xor_lt_two_pow hv (show (s[k]).toNat < 2 ^ 32 by omega)
      have HL2 := Lib.hid hlt2
      have hbz : ((s[k].toNat : Nat) : Int) < 256 := by omega
      clear hv hb hlt2
      go_wp2_with fail
      go_loop [3, 5] (fun s3 s5 => ∃ j u : Nat, j ≤ 8 ∧ s5 = .int .i64 j ∧ s3 = .int .u32 u ∧ u < 2 ^ 32 ∧ csts (8 - j) u = crcB v s[k]) (fun _ s5 => 8 - (Go.RowKit.intOf s5).toNat)
      case atStart => exact ⟨0, v ^^^ (s[k]).toNat, by omega, rfl, by rw [HX.out], HL2.out, rfl⟩
      case round =>
        obtain ⟨j, u, hj, rfl, rfl, hu, hcs⟩ := hrel
        by_cases hj8 : j < 8
        · have hjz : (j : Int) < 8 := by omega
          have hu32 : (u : Int) < 4294967296 := by omega
          have hstep : csts (8 - (j + 1)) (cst u) = crcB v s[k] := by
            rw [← hcs, show 8 - j = (8 - (j + 1)) + 1 by omega]
            rfl
          have HSt := Lib.hid hstep
          have HU := Lib.hid (cst_lt hu)
          by_cases hp : u % 2 = 1
          · have hpz : ((u : Int) % 2 == 1) = true := by simp; omega
            have HX2 := Lib.hid (xor_u32 (u / 2) 3988292384 (by omega) (by decide))
            have HE : Hid (cst u = u / 2 ^^^ 3988292384) := Lib.hid (by unfold cst; rw [if_pos hp])
            clear hcs hstep hu
            go_wp2_with fail
            go_round
            case rel => exact ⟨j + 1, cst u, by omega, by go_num, by rw [HE.out]; exact congrArg _ HX2.out, HU.out, HSt.out⟩
            case measure => simp [Go.RowKit.intOf]; omega
          · have hpz : ((u : Int) % 2 == 1) = false := by simp; omega
            have HE : Hid (cst u = u / 2) := Lib.hid (by unfold cst; rw [if_neg hp])
            clear hcs hstep hu
            go_wp2_with fail
            go_round
            case rel => exact ⟨j + 1, cst u, by omega, by go_num, by rw [HE.out]; go_num, HU.out, HSt.out⟩
            case measure => simp [Go.RowKit.intOf]; omega
        · have hjz : ¬ (j : Int) < 8 := by omega
          have hj0 : j = 8 := by omega
          subst hj0
          have hcu : u = crcB v s[k] := hcs
          have HCu := Lib.hid hcu
          clear hcs hcu
          go_wp2_with fail
          go_round
          case rel => exact ⟨k + 1, u, by omega, by go_num, rfl, hu, by rw [HT.out, crcR_snoc, HC.out, HCu.out]⟩
          case measure => simp [Go.RowKit.intOf]; omega
    · have hz : ¬ (k : Int) < s.size := by omega
      have HX := Lib.hid (xor_u32 v 4294967295 hv (by decide))
      have HF : Hid (crcL s.data.toList = v ^^^ 4294967295) := Lib.hid (by
        unfold crcL
        rw [← HC.out, List.take_of_length_le (by rw [← HS.out]; omega)])
      clear hv
      go_wp2_with fail
      go_ret
      exact ⟨by rw [HF.out]; exact congrArg (fun z => Ending.returned (Value.int .u32 z)) HX.out, rfl⟩
end HR
end Go.Proofs.YtfkaackhikbbkaaGreatDoor
end

section
/- Layer 4: the contract of the document's turn. -/
namespace Go.Proofs.YtfkaackhikbbkaaGreatDoor
open Go.RowKit Go.Lib
namespace HR
open HS

theorem or_u32 (a b : Nat) (ha : a < 2 ^ 32) (hb : b < 2 ^ 32) : bits .or .u32 (a : Int) (b : Int) = ((a ||| b : Nat) : Int) := by
  have hx : a ||| b < 2 ^ 32 := Nat.or_lt_two_pow ha hb
  show IntKind.u32.wrap ((BitVec.ofInt 32 (a : Int) ||| BitVec.ofInt 32 (b : Int)).toNat : Int) = _
  rw [BitVec.toNat_or, ofInt_u32 a ha, ofInt_u32 b hb, wrap_u32 _ hx]
theorem and_u32 (a b : Nat) (ha : a < 2 ^ 32) (hb : b < 2 ^ 32) : bits .and .u32 (a : Int) (b : Int) = ((a &&& b : Nat) : Int) := by
  have hx : a &&& b < 2 ^ 32 := Nat.lt_of_le_of_lt Nat.and_le_left ha
  show IntKind.u32.wrap ((BitVec.ofInt 32 (a : Int) &&& BitVec.ofInt 32 (b : Int)).toNat : Int) = _
  rw [BitVec.toNat_and, ofInt_u32 a ha, ofInt_u32 b hb, wrap_u32 _ hx]
theorem rotr_bits (x n : Nat) (hx : x < 4294967296) : bits .or .u32 ((x : Int) / 2 ^ n) ((x : Int) * 2 ^ (32 - n) % 4294967296) = (rotr x n : Nat) := by
  have e1 : (x : Int) / 2 ^ n = ((x / 2 ^ n : Nat) : Int) := by simp
  have e2 : (x : Int) * 2 ^ (32 - n) % 4294967296 = ((x * 2 ^ (32 - n) % 4294967296 : Nat) : Int) := by simp
  rw [e1, e2, or_u32]
  · rfl
  · exact Nat.lt_of_le_of_lt (Nat.div_le_self _ _) (by omega)
  · omega
theorem rotr_lt (x n : Nat) (hx : x < 4294967296) : rotr x n < 4294967296 := by
  have h := Nat.or_lt_two_pow (n := 32) (x := x / 2 ^ n) (y := x * 2 ^ (32 - n) % 4294967296) (Nat.lt_of_le_of_lt (Nat.div_le_self _ _) (by omega)) (by omega)
  exact h
set_option maxRecDepth 100000 in
set_option maxHeartbeats 1600000 in
theorem rturn_any (x n : Nat) (w : World) (hx : x < 4294967296) (h0 : 1 ≤ n) (h1 : n ≤ 31) :
    Calls Tryz.prog 125 #[.int .u32 x, .int .u32 n] w fun e w' => e = .returned (.int .u32 (rotr x n : Nat)) ∧ w = w' := by
  have hxz : (x : Int) < 4294967296 := by omega
  have h0z : (1 : Int) ≤ n := by omega
  have h1z : (n : Int) ≤ 31 := by omega
  go_enter Tryz.func125, Tryz.ntmps125
  go_wp2_with fail
  go_ret
  exact ⟨by rw [← rotr_bits x n hx]; rfl, rfl⟩
end HR
end Go.Proofs.YtfkaackhikbbkaaGreatDoor
end

section
/- Layer 4: the contract of the document's fraction, by that of its above. -/
namespace Go.Proofs.YtfkaackhikbbkaaGreatDoor
open Go.RowKit Go.Lib
namespace HR
open HS

def AboveOf (p k : Nat) : Prop := ∀ (x : Nat) (w : World), x < 32 * 4294967296 → Calls Tryz.prog 146 #[.int .u64 x, .int .u64 p, .int .i64 k] w fun e w' => e = .returned (.bool (aboveN x p k)) ∧ Below w.heap.size w w'
theorem bisect_step {f p k lo hi : Nat} (h : ¬ hi - lo ≤ 1) : bisect (f + 1) p k lo hi = if aboveN ((lo + hi) / 2) p k = true then bisect f p k lo ((lo + hi) / 2) else bisect f p k ((lo + hi) / 2) hi := by
  rw [bisect, if_neg h]
theorem bisect_end {f p k lo hi : Nat} (h : hi - lo ≤ 1) : bisect f p k lo hi = lo := by
  cases f with
  | zero => rfl
  | succ f => rw [bisect, if_pos h]
set_option maxRecDepth 100000 in
set_option maxHeartbeats 1600000 in
theorem rfrac_any (p k : Nat) (w : World) (cA : AboveOf p k) :
    Calls Tryz.prog 123 #[.int .u64 p, .int .i64 k] w fun e w' => e = .returned (.int .u32 (fracN p k : Nat)) ∧ Below w.heap.size w w' := by
  have CA := Lib.hid cA
  clear cA
  go_enter Tryz.func123, Tryz.ntmps123
  go_wp2
  go_loopw [5, 6] (fun s5 s6 wr => ∃ f lo hi : Nat, s5 = .int .u64 lo ∧ s6 = .int .u64 hi ∧ lo < hi ∧ hi ≤ 137438953472 ∧ hi - lo ≤ 2 ^ f ∧ bisect 64 p k 0 (32 * 4294967296) = bisect (f + 27) p k lo hi ∧ Below w.heap.size w wr) (fun s5 s6 _ => (Go.RowKit.intOf s6).toNat - (Go.RowKit.intOf s5).toNat)
  case atStart => exact ⟨37, 0, 137438953472, rfl, rfl, by omega, by omega, by decide, rfl, Below.refl _ _⟩
  case round =>
    obtain ⟨f, lo, hi, rfl, rfl, hlt, hhi, hf, hbi, hb⟩ := hrel
    have HB := Lib.hid hb
    have HF := Lib.hid hf
    have HE := Lib.hid hbi
    clear hb hf hbi
    have hltz : (lo : Int) < hi := by omega
    have hhiz : (hi : Int) ≤ 137438953472 := by omega
    by_cases hd : hi - lo ≤ 1
    · have hdz : ¬ (1 : Int) < (hi : Int) - lo := by omega
      go_wp2_with fail
      go_ret
      have e : fracN p k = lo % 4294967296 := by unfold fracN; rw [HE.out, bisect_end hd]
      exact ⟨by rw [e]; rfl, HB.out⟩
    · have hdz : (1 : Int) < (hi : Int) - lo := by omega
      obtain ⟨mid, hmid⟩ : ∃ mid, (lo + hi) / 2 = mid := ⟨_, rfl⟩
      have hme : ((lo : Int) + hi) / 2 = (mid : Int) := by omega
      go_wp2_with fail
      have HM := Lib.hid hmid
      have hml : lo < mid := by omega
      have hmh : mid < hi := by omega
      have h2 : Hid (mid - lo ≤ 2 ^ (f - 1) ∧ hi - mid ≤ 2 ^ (f - 1) ∧ f = (f - 1) + 1) := Lib.hid (by
        have h := HF.out
        cases f with
        | zero => simp at h; omega
        | succ f =>
          rw [Nat.pow_succ] at h
          rw [show f + 1 - 1 = f by omega]
          omega)
      have HS := Lib.hid (show bisect (f + 27) p k lo hi = if aboveN mid p k = true then bisect (f - 1 + 27) p k lo mid else bisect (f - 1 + 27) p k mid hi by
        rw [← HM.out, ← bisect_step hd, show f - 1 + 27 + 1 = f + 27 by have := h2.out.2.2; omega])
      refine (CA.out mid wr (by omega)).mono ?_
      rintro e w2 ⟨rfl, hb2⟩
      have HB2 := Lib.hid (Below.trans HB.out (hb2.mono HB.out.size))
      clear hb2
      clear hmid
      by_cases hab : aboveN mid p k = true
      · have HS2 := Lib.hid (HE.out.trans (HS.out.trans (if_pos hab)))
        rw [hab]
        go_wp2_with fail
        go_roundw
        case rel => exact ⟨f - 1, lo, mid, rfl, rfl, hml, by omega, h2.out.1, HS2.out, HB2.out⟩
        case measure => simp [Go.RowKit.intOf]; omega
      · have HS2 := Lib.hid (HE.out.trans (HS.out.trans (if_neg hab)))
        rw [Bool.not_eq_true] at hab
        rw [hab]
        go_wp2_with fail
        go_roundw
        case rel => exact ⟨f - 1, mid, hi, rfl, rfl, hmh, by omega, h2.out.2.1, HS2.out, HB2.out⟩
        case measure => simp [Go.RowKit.intOf]; omega
end HR
end Go.Proofs.YtfkaackhikbbkaaGreatDoor
end

section
/- Layer 4: the contract of the document's greater. -/
namespace Go.Proofs.YtfkaackhikbbkaaGreatDoor
open Go.RowKit Go.Lib
namespace HR
open HS

/-- A number's words, the least first. -/
def wd (l : List Nat) (i : Nat) : Nat := l.getD i 0
def gtGo (a b : List Nat) : Nat → Bool
  | 0 => false
  | i + 1 => if wd a i = wd b i then gtGo a b i else decide (wd b i < wd a i)
def WordsAt (w : World) (g : Nat) (l : List Nat) : Prop := ∀ j, j < l.length → w.cell? ⟨g, j, none⟩ = some (.int .u64 (wd l j : Nat))
theorem wd_out {l : List Nat} {j : Nat} (h : l.length ≤ j) : wd l j = 0 := by unfold wd; simp [List.getD, List.getElem?_eq_none h]
set_option maxRecDepth 4000 in
set_option maxHeartbeats 1600000 in
theorem rgreater_any (ga gb ca cb : Nat) (a b : List Nat) (w : World) (ha : WordsAt w ga a) (hb : WordsAt w gb b) (hla : a.length ≤ 1000) (hlb : b.length ≤ 1000) :
    Calls Tryz.prog 159 #[.slice (some ⟨ga, 0, none⟩) a.length ca, .slice (some ⟨gb, 0, none⟩) b.length cb] w fun e w' => e = .returned (.bool (gtGo a b (max a.length b.length))) ∧ w = w' := by
  have HA := Lib.hid ha
  have HB := Lib.hid hb
  clear ha hb
  have hlaz : (a.length : Int) ≤ 1000 := by omega
  have hlbz : (b.length : Int) ≤ 1000 := by omega
  obtain ⟨n, hn⟩ : ∃ n, max a.length b.length = n := ⟨_, rfl⟩
  rw [hn]
  have HN := Lib.hid hn
  clear hn
  go_enter Tryz.func159, Tryz.ntmps159
  have hq1 : max (a.length : Int) b.length = (n : Int) := by have := HN.out; omega
  have hq2 : max (b.length : Int) a.length = (n : Int) := by have := HN.out; omega
  go_wp2_with fail
  all_goals
    go_loop [5] (fun s5 => ∃ (i : Nat) (z : Int), s5 = .int .i64 z ∧ z = i - 1 ∧ i ≤ 1000 ∧ gtGo a b n = gtGo a b i) (fun s5 => (Go.RowKit.intOf s5 + 1).toNat)
    case atStart => first | exact ⟨n, _, rfl, rfl, by have := HN.out; omega, rfl⟩ | exact ⟨b.length, _, rfl, rfl, by omega, by rw [show n = b.length by have := HN.out; omega]⟩ | exact ⟨a.length, _, rfl, rfl, by omega, by rw [show n = a.length by have := HN.out; omega]⟩
    case round =>
      obtain ⟨i, z, rfl, hz, hi, hg⟩ := hrel
      have HG := Lib.hid hg
      clear hg
      cases i with
      | zero =>
        have hz1 : z = -1 := by omega
        subst hz1
        clear hz
        go_wp2
        go_ret
        exact ⟨by rw [HG.out]; rfl, rfl⟩
      | succ j =>
        have hzj : z = (j : Int) := by omega
        subst hzj
        clear hz
        have HS := Lib.hid (show gtGo a b (j + 1) = if wd a j = wd b j then gtGo a b j else decide (wd b j < wd a j) from rfl)
        by_cases hja : j < a.length
        · have hjaz : (j : Int) < a.length := by omega
          by_cases hjb : j < b.length
          · have hjbz : (j : Int) < b.length := by omega
            by_cases he : wd a j = wd b j
            · have HR := Lib.hid (HG.out.trans (HS.out.trans (if_pos he)))
              have hez : ((wd a j : Nat) : Int) = (wd b j : Nat) := by omega
              have cA := HA.out j hja
              have cB := HB.out j hjb
              generalize wd a j = x at *; generalize wd b j = y at *; have exy : x = y := he; subst exy; clear he hez
              go_wp2_with fail
              go_round
              case rel => exact ⟨j, _, rfl, rfl, by omega, HR.out⟩
              case measure => simp [Go.RowKit.intOf]
            · have hez : ¬ ((wd a j : Nat) : Int) = (wd b j : Nat) := by omega
              have HR := Lib.hid (HG.out.trans (HS.out.trans (if_neg he)))
              have cA := HA.out j hja
              have cB := HB.out j hjb
              skip
              go_wp2_with fail
              all_goals go_ret
              all_goals exact ⟨by rw [HR.out]; simp, rfl⟩
          · have hjbz : ¬ (j : Int) < b.length := by omega
            by_cases he : wd a j = wd b j
            · have HR := Lib.hid (HG.out.trans (HS.out.trans (if_pos he)))
              have hez : ((wd a j : Nat) : Int) = (wd b j : Nat) := by omega
              have cA := HA.out j hja
              have eB : wd b j = 0 := wd_out (by omega)
              rw [eB] at he; rw [he] at cA; clear hez he
              go_wp2_with fail
              go_round
              case rel => exact ⟨j, _, rfl, rfl, by omega, HR.out⟩
              case measure => simp [Go.RowKit.intOf]
            · have hez : ¬ ((wd a j : Nat) : Int) = (wd b j : Nat) := by omega
              have HR := Lib.hid (HG.out.trans (HS.out.trans (if_neg he)))
              have cA := HA.out j hja
              have eB : wd b j = 0 := wd_out (by omega)
              rw [eB] at hez he HR
              go_wp2_with fail
              all_goals go_ret
              all_goals exact ⟨by rw [HR.out]; simp, rfl⟩
        · have hjaz : ¬ (j : Int) < a.length := by omega
          by_cases hjb : j < b.length
          · have hjbz : (j : Int) < b.length := by omega
            by_cases he : wd a j = wd b j
            · have HR := Lib.hid (HG.out.trans (HS.out.trans (if_pos he)))
              have hez : ((wd a j : Nat) : Int) = (wd b j : Nat) := by omega
              have eA : wd a j = 0 := wd_out (by omega)
              have cB := HB.out j hjb
              rw [eA] at he; rw [← he] at cB; clear hez he
              go_wp2_with fail
              go_round
              case rel => exact ⟨j, _, rfl, rfl, by omega, HR.out⟩
              case measure => simp [Go.RowKit.intOf]
            · have hez : ¬ ((wd a j : Nat) : Int) = (wd b j : Nat) := by omega
              have HR := Lib.hid (HG.out.trans (HS.out.trans (if_neg he)))
              have eA : wd a j = 0 := wd_out (by omega)
              have cB := HB.out j hjb
              rw [eA] at hez he HR
              go_wp2_with fail
              all_goals go_ret
              all_goals exact ⟨by rw [HR.out]; simp, rfl⟩
          · have hjbz : ¬ (j : Int) < b.length := by omega
            by_cases he : wd a j = wd b j
            · have HR := Lib.hid (HG.out.trans (HS.out.trans (if_pos he)))
              have hez : ((wd a j : Nat) : Int) = (wd b j : Nat) := by omega
              have eA : wd a j = 0 := wd_out (by omega)
              have eB : wd b j = 0 := wd_out (by omega)
              clear hez he
              go_wp2_with fail
              go_round
              case rel => exact ⟨j, _, rfl, rfl, by omega, HR.out⟩
              case measure => simp [Go.RowKit.intOf]
            · exact absurd (by rw [wd_out (by omega), wd_out (by omega)]) he
end HR
end Go.Proofs.YtfkaackhikbbkaaGreatDoor
end

section
/- Layer 4: numbers in words of 32 bits, the least first: their value, and what compares them (no program is read here). -/
namespace Go.Proofs.YtfkaackhikbbkaaGreatDoor
open Go.RowKit Go.Lib
namespace HX
open HS HR

/-- The value of the first n words. -/
def valP (l : List Nat) : Nat → Nat
  | 0 => 0
  | n + 1 => valP l n + wd l n * 4294967296 ^ n
theorem valP_lt (l : List Nat) (hl : ∀ j, wd l j < 4294967296) : ∀ n, valP l n < 4294967296 ^ n
  | 0 => by simp [valP]
  | n + 1 => by
    have ih := valP_lt l hl n
    have h := hl n
    rw [valP, Nat.pow_succ]
    have h2 : wd l n * 4294967296 ^ n ≤ 4294967295 * 4294967296 ^ n := Nat.mul_le_mul_right _ (by omega)
    generalize 4294967296 ^ n = P at *
    omega
theorem gt_val (a b : List Nat) (ha : ∀ j, wd a j < 4294967296) (hb : ∀ j, wd b j < 4294967296) : ∀ n, gtGo a b n = decide (valP b n < valP a n)
  | 0 => by simp [gtGo, valP]
  | n + 1 => by
    have ih := gt_val a b ha hb n
    have la := valP_lt a ha n
    have lb := valP_lt b hb n
    rw [gtGo, valP, valP]
    by_cases h : wd a n = wd b n
    · rw [if_pos h, ih, h]
      simp
    · rw [if_neg h]
      rcases Nat.lt_or_gt_of_ne h with h1 | h1
      · have h2 : wd a n * 4294967296 ^ n + 4294967296 ^ n ≤ wd b n * 4294967296 ^ n := by
          rw [← Nat.succ_mul]
          exact Nat.mul_le_mul_right _ h1
        rw [decide_eq_false (by omega), decide_eq_false (by omega)]
      · have h2 : wd b n * 4294967296 ^ n + 4294967296 ^ n ≤ wd a n * 4294967296 ^ n := by
          rw [← Nat.succ_mul]
          exact Nat.mul_le_mul_right _ h1
        rw [decide_eq_true h1, decide_eq_true (by omega)]
theorem wd_set_same (l : List Nat) (m x : Nat) (h : m < l.length) : wd (l.set m x) m = x := by
  unfold wd
  rw [List.getD_eq_getElem?_getD, List.getElem?_set_self h]
  rfl
theorem wd_set_ne (l : List Nat) (m x j : Nat) (h : m ≠ j) : wd (l.set m x) j = wd l j := by
  unfold wd
  rw [List.getD_eq_getElem?_getD, List.getD_eq_getElem?_getD, List.getElem?_set_ne h]
theorem valP_set_low (l : List Nat) (m x : Nat) : ∀ n, n ≤ m → valP (l.set m x) n = valP l n
  | 0, _ => rfl
  | n + 1, h => by rw [valP, valP, valP_set_low l m x n (by omega), wd_set_ne l m x n (by omega)]
theorem valP_set (l : List Nat) (m x : Nat) (hm : m < l.length) : ∀ n, m < n → valP (l.set m x) n + wd l m * 4294967296 ^ m = valP l n + x * 4294967296 ^ m
  | 0, h => by omega
  | n + 1, h => by
    rw [valP, valP]
    by_cases hn : m = n
    · subst hn
      rw [valP_set_low l m x m (Nat.le_refl _), wd_set_same l m x hm]
      omega
    · have ih := valP_set l m x hm n (by omega)
      rw [wd_set_ne l m x n hn]
      omega
theorem valP_out (l : List Nat) : ∀ (n m : Nat), (∀ j, n ≤ j → wd l j = 0) → n ≤ m → valP l m = valP l n
  | n, 0, _, h => by rw [show n = 0 by omega]
  | n, m + 1, hz, h => by
    by_cases e : n = m + 1
    · rw [e]
    · rw [valP, hz m (by omega), valP_out l n m hz (by omega)]
      omega
theorem valP_len (l : List Nat) (m : Nat) (h : l.length ≤ m) : valP l m = valP l l.length := valP_out l l.length m (fun j hj => wd_out hj) h
theorem wd_zero (n j : Nat) : wd (List.replicate n 0) j = 0 := by
  unfold wd
  rw [List.getD_eq_getElem?_getD, List.getElem?_replicate]
  split <;> rfl
theorem valP_zero (l : List Nat) (h : ∀ j, wd l j = 0) : ∀ n, valP l n = 0
  | 0 => rfl
  | n + 1 => by rw [valP, valP_zero l h n, h n]; omega
theorem wd_snoc (l : List Nat) (x : Nat) : wd (l ++ [x]) l.length = x := by
  unfold wd
  rw [List.getD_eq_getElem?_getD, List.getElem?_append_right (Nat.le_refl _), Nat.sub_self]
  rfl
theorem wd_app (l : List Nat) (x j : Nat) (h : j < l.length) : wd (l ++ [x]) j = wd l j := by
  unfold wd
  rw [List.getD_eq_getElem?_getD, List.getD_eq_getElem?_getD, List.getElem?_append_left h]
theorem valP_app (l : List Nat) (x : Nat) : ∀ n, n ≤ l.length → valP (l ++ [x]) n = valP l n
  | 0, _ => rfl
  | n + 1, h => by rw [valP, valP, valP_app l x n (by omega), wd_app l x n (by omega)]
/-- Noughts, and one word above them. -/
theorem valP_high (k p : Nat) : valP (List.replicate k 0 ++ [p]) (k + 1) = p * 4294967296 ^ k := by
  have hl : (List.replicate k 0).length = k := by simp
  have h1 := wd_snoc (List.replicate k 0) p
  rw [hl] at h1
  rw [valP, h1, valP_app _ _ k (by omega), valP_zero _ (wd_zero k)]
  omega
theorem valP_two (x y : Nat) : valP [x, y] 2 = x + y * 4294967296 := by
  simp [valP, wd]
theorem pow_32 (k : Nat) : 4294967296 ^ k = 2 ^ (32 * k) := by
  rw [Nat.pow_mul]
/-- One step of the inner sum. -/
theorem mul_step {vV vV' c t V0 a S b P Q w : Nat} (h : vV + c * (P * Q) = V0 + a * S * P) (hs : vV' + w * (P * Q) = vV + (t % 4294967296) * (P * Q)) (ht : t = w + c + a * b) :
    vV' + t / 4294967296 * (P * Q * 4294967296) = V0 + a * (S + b * Q) * P := by
  have e1 : t / 4294967296 * (P * Q * 4294967296) = (t / 4294967296 * 4294967296) * (P * Q) := by
    rw [Nat.mul_comm (P * Q) 4294967296, ← Nat.mul_assoc]
  have e2 : (t % 4294967296) * (P * Q) + (t / 4294967296 * 4294967296) * (P * Q) = t * (P * Q) := by
    rw [← Nat.add_mul]
    congr 1
    omega
  have e3 : t * (P * Q) = w * (P * Q) + c * (P * Q) + a * b * (P * Q) := by rw [ht, Nat.add_mul, Nat.add_mul]
  have e4 : a * (S + b * Q) * P = a * S * P + a * b * (P * Q) := by
    rw [Nat.mul_add, Nat.add_mul]
    congr 1
    rw [← Nat.mul_assoc a b Q, Nat.mul_assoc (a * b) Q P, Nat.mul_comm Q P]
  rw [e1, e4]
  generalize P * Q = M at *
  generalize a * S * P = A1 at *
  generalize a * b * M = A2 at *
  generalize (t % 4294967296) * M = A3 at *
  generalize (t / 4294967296 * 4294967296) * M = A4 at *
  generalize t * M = A5 at *
  generalize w * M = A6 at *
  generalize c * M = A7 at *
  omega
end HX
end Go.Proofs.YtfkaackhikbbkaaGreatDoor
end

section
/- Layer 4: the contract of the document's times. -/
namespace Go.Proofs.YtfkaackhikbbkaaGreatDoor
open Go.RowKit Go.Lib
namespace HX
open HS HR

theorem info64 : ∃ i0, Tryz.prog.info? 110 = some i0 ∧ i0.zero = some (.int .u64 0) ∧ i0.size = 1 ∧ i0.bytes = 8 := by
  have h : (Tryz.prog.info? 110).map (fun i => (i.zero, i.size, i.bytes)) = some (some (.int .u64 0), 1, 8) := by kernel_rfl
  cases hq : Tryz.prog.info? 110 with
  | none => rw [hq] at h; cases h
  | some i0 =>
    rw [hq] at h
    simp only [Option.map_some, Option.some.injEq, Prod.mk.injEq] at h
    exact ⟨i0, rfl, h.1, h.2.1, h.2.2⟩
theorem wd_get {l : List Nat} {j x : Nat} (h : l[j]? = some x) : wd l j = x := by
  unfold wd
  rw [List.getD_eq_getElem?_getD, h]
  rfl
/-- A number's words in a block of the call's own. -/
structure Free64 (W : World) (B g : Nat) (l : List Nat) : Prop where
  base : B ≤ g
  lt : g < W.heap.size
  cells : WordsAt W g l
  free : ∀ j, j < l.length → W.frozen? ⟨g, j, none⟩ = false
theorem Free64.below {W W' : World} {B g : Nat} {l : List Nat} (h : Free64 W B g l) (hb : Below W.heap.size W W') : Free64 W' B g l :=
  ⟨h.base, Nat.lt_of_lt_of_le h.lt hb.size, fun j hj => (hb.cell (p := ⟨g, j, none⟩) h.lt).trans (h.cells j hj), fun j hj => (hb.frozen (p := ⟨g, j, none⟩) h.lt).trans (h.free j hj)⟩
theorem Free64.set {W : World} {B g : Nat} {l : List Nat} (h : Free64 W B g l) (i : Nat) (hi : i < l.length) (n : Nat) : Free64 (W.setCell ⟨g, i, none⟩ (.int .u64 (n : Nat))) B g (l.set i n) := by
  refine ⟨h.base, by have := h.lt; simpa using this, fun j hj => ?_, fun j hj => ?_⟩
  · rw [List.length_set] at hj
    by_cases hij : i = j
    · subst hij
      rw [wd_set_same l i n hi]
      exact World.cell?_setCell_same _ _ _ (h.cells i hi)
    · rw [wd_set_ne l i n j hij, World.cell?_setCell_other]
      · exact h.cells j hj
      · intro e
        cases e
        exact hij rfl
  · rw [World.frozen?_setCell]
    rw [List.length_set] at hj
    exact h.free j hj
theorem Free64.drewN {W : World} {B g : Nat} {l : List Nat} (h : Free64 W B g l) (n : Nat) : Free64 (W.drewN n) B g l := ⟨h.base, h.lt, h.cells, h.free⟩
theorem own64 {W : World} {B : Nat} {v : Value} {l : List Nat} (h : W.ownsRow B 110 1 v l.length (l.map fun x : Nat => Value.int .u64 x)) (h0 : 0 < l.length) : ∃ g cap, v = .slice (some ⟨g, 0, none⟩) l.length cap ∧ Free64 W B g l := by
  rcases h.2 with ⟨_, h1⟩ | ⟨g, cap, cur, hv, hg, hrow, hle, _, hcs, htake⟩
  · omega
  · refine ⟨g, cap, hv, hg, (Array.getElem?_eq_some_iff.1 hrow).1, fun j hj => ?_, fun j hj => frozen_of_row W g j cur _ hrow⟩
    have hx : l[j]? = some (wd l j) := by
      rw [List.getElem?_eq_getElem hj]
      congr 1
      exact (wd_get (List.getElem?_eq_getElem hj)).symm
    have hc := World.ownsRow.cells h (g := g) (by rw [hv]; rfl) j (.int .u64 (wd l j : Nat)) (by rw [List.getElem?_map, hx]; rfl)
    have hadd : (⟨g, 0, none⟩ : Addr).add j = ⟨g, j, none⟩ := by unfold Addr.add; split <;> simp_all
    rwa [hadd] at hc
/-- Noughts, made. -/
theorem made64 (w : World) (n : Nat) (hn : n ≤ 1000) : ∃ w', (Instr.makeSlice 145 (.int .i64 (n : Int)) (.int .i64 (n : Int))).run Tryz.prog w = .ok (.slice (some ⟨w.heap.size, 0, none⟩) n n) w' ∧
    w'.ownsRow w.heap.size 110 1 (.slice (some ⟨w.heap.size, 0, none⟩) n n) n ((List.replicate n 0).map fun x : Nat => Value.int .u64 x) ∧ Below w.heap.size w w' := by
  obtain ⟨i0, hi, hz0, hz1, hz2⟩ := info64
  obtain ⟨w', hr, ho, hg⟩ := run_make_full (P := Tryz.prog) w w.heap.size 145 110 i0 (.int .u64 0) 1 Tryz.underlying145 hi hz0 hz1 .i64 .i64 n (by rw [hz2]; omega) (by unfold maxLen; omega) (Nat.le_refl _)
  refine ⟨w', hr, ?_, (Below.refl _ _).grown hg (Nat.le_refl _) (fun k hk => by cases hk)⟩
  rw [Nat.mul_one, show (Value.int IntKind.u64 0).cells = #[.int .u64 0] from rfl, toList_madeCells_one] at ho
  rw [List.map_replicate]
  exact ho
/-- What the sum so far is, at the head of each inner round. -/
def TIn (w : World) (g n i lb : Nat) (A : Nat) (ai : Nat) (b : List Nat) (s7 s8 : Value) (wr : World) : Prop :=
  ∃ (j c : Nat) (V : List Nat), s8 = .int .i64 j ∧ s7 = .int .u64 c ∧ c < 4294967296 ∧ j ≤ lb + 1 ∧ (j ≤ lb ∨ c = 0) ∧ Free64 wr w.heap.size g V ∧ V.length = n ∧ (∀ m, wd V m < 4294967296) ∧
    valP V n + c * (4294967296 ^ i * 4294967296 ^ j) = A + ai * valP b j * 4294967296 ^ i ∧ (∀ m, i + lb ≤ m → i + j ≤ m → wd V m = 0) ∧ Below w.heap.size w wr
def TOut (w : World) (g n lb : Nat) (a b : List Nat) (s6 : Value) (wr : World) : Prop :=
  ∃ (i : Nat) (V : List Nat), i ≤ a.length ∧ s6 = .int .i64 i ∧ Free64 wr w.heap.size g V ∧ V.length = n ∧ (∀ m, wd V m < 4294967296) ∧ valP V n = valP a i * valP b lb ∧ (∀ m, i + lb ≤ m → wd V m = 0) ∧ Below w.heap.size w wr
def NumPost (v : Nat) (n : Nat) (w : World) (r : Ending) (w' : World) : Prop :=
  ∃ (g c : Nat) (V : List Nat), r = .returned (.slice (some ⟨g, 0, none⟩) n c) ∧ V.length = n ∧ WordsAt w' g V ∧ g < w'.heap.size ∧ (∀ j, wd V j < 4294967296) ∧ valP V n = v ∧ Below w.heap.size w w'
set_option maxRecDepth 100000 in
set_option maxHeartbeats 1600000 in
theorem rtimes_any (ga ca gb cb : Nat) (a b : List Nat) (w : World) (ha : WordsAt w ga a) (hga : ga < w.heap.size) (hb : WordsAt w gb b) (hgb : gb < w.heap.size) (hla : a.length ≤ 100) (hlb : b.length ≤ 100) (haw : ∀ j, wd a j < 4294967296) (hbw : ∀ j, wd b j < 4294967296) :
    Calls Tryz.prog 158 #[.slice (some ⟨ga, 0, none⟩) a.length ca, .slice (some ⟨gb, 0, none⟩) b.length cb] w (NumPost (valP a a.length * valP b b.length) (a.length + b.length + 1) w) := by
  obtain ⟨w1, hmk, ho, hb1⟩ := made64 w (a.length + b.length + 1) (by omega)
  obtain ⟨lb, hlb'⟩ : ∃ lb, b.length = lb := ⟨_, rfl⟩
  obtain ⟨la, hla'⟩ : ∃ la, a.length = la := ⟨_, rfl⟩
  rw [hla', hlb'] at ho hmk ⊢
  rw [hla'] at hla
  rw [hlb'] at hlb
  obtain ⟨g0, c0, hg0, hF0⟩ := own64 (l := List.replicate (la + lb + 1) 0) (by rw [List.length_replicate]; exact ho) (by rw [List.length_replicate]; omega)
  have hg1 : g0 = w.heap.size := by
    rw [List.length_replicate] at hg0
    cases hg0
    rfl
  subst hg1
  rw [show ((la + lb + 1 : Nat) : Int) = (la : Int) + lb + 1 by omega] at hmk
  have HA := Lib.hid ha
  have HB' := Lib.hid hb
  have HAW := Lib.hid haw
  have HBW := Lib.hid hbw
  have HLA := Lib.hid hla'
  have HLB := Lib.hid hlb'
  have HF := Lib.hid hF0
  have HBl := Lib.hid hb1
  clear ha hb haw hbw hla' hlb' hF0 hb1 ho hg0
  go_enter Tryz.func158, Tryz.ntmps158
  go_wp2
  go_loopw [6, 7, 8, 9] (fun s6 _ _ _ wr => TOut w w.heap.size (la + lb + 1) lb a b s6 wr) (fun s6 _ _ _ _ => la - (Go.RowKit.intOf s6).toNat)
  case atStart => exact ⟨0, _, Nat.zero_le _, rfl, HF.out, List.length_replicate, fun m => by rw [wd_zero]; decide, by rw [valP_zero _ (wd_zero _)]; simp [valP], fun m _ => wd_zero _ m, HBl.out⟩
  case round =>
    clear HF HBl
    obtain ⟨i, V, hi, rfl, hF, hVl, hVw, hval, hzero, hb⟩ := hrel
    rw [HLA.out] at hi
    have HF := Lib.hid hF
    have HVl := Lib.hid hVl
    have HVw := Lib.hid hVw
    have HVal := Lib.hid hval
    have HZ := Lib.hid hzero
    have HBl := Lib.hid hb
    clear hF hVl hVw hval hzero hb
    by_cases hlt : i < la
    · have hz : (i : Int) < la := by omega
      go_wp2_with fail
      go_loopw [7, 8, 9] (fun s7 s8 _ wr => TIn w w.heap.size (la + lb + 1) i lb (valP a i * valP b lb) (wd a i) b s7 s8 wr) (fun _ s8 _ _ => lb + 2 - (Go.RowKit.intOf s8).toNat)
      case atStart => exact ⟨0, 0, V, rfl, rfl, by decide, by omega, .inl (Nat.zero_le _), HF.out, HVl.out, HVw.out, by rw [HVal.out]; simp [valP], fun m h1 _ => HZ.out m h1, HBl.out⟩
      case round =>
        clear HF HVl HVw HVal HZ HBl
        obtain ⟨j, c, V, rfl, rfl, hc, hj, hjc, hF, hVl, hVw, hval, hzero, hb⟩ := hrel
        have HF := Lib.hid hF
        have HVl := Lib.hid hVl
        have HVw := Lib.hid hVw
        have HVal := Lib.hid hval
        have HZ := Lib.hid hzero
        have HBl := Lib.hid hb
        clear hF hVl hVw hval hzero hb
        have hcz : (c : Int) < 4294967296 := by omega
        have hij : i + j < V.length := by rw [HVl.out]; omega
        have HIJ := Lib.hid hij
        have hijz : (i : Int) + j < (la : Int) + lb + 1 := by omega
        have hij0 : (0 : Int) ≤ (i : Int) + j := by omega
        obtain ⟨x, hx⟩ : ∃ x, wd V (i + j) = x := ⟨_, rfl⟩
        have hxl : x < 4294967296 := by rw [← hx]; exact HVw.out _
        have hxz : (x : Int) < 4294967296 := by omega
        have cV := HF.out.cells (i + j) hij
        rw [hx] at cV
        have HX := Lib.hid hx
        by_cases hjl : j < lb
        · have hjz : (j : Int) < lb := by omega
          obtain ⟨p, hp⟩ : ∃ p, wd a i = p := ⟨_, rfl⟩
          obtain ⟨q, hq⟩ : ∃ q, wd b j = q := ⟨_, rfl⟩
          have hpl : p < 4294967296 := by rw [← hp]; exact HAW.out _
          have hql : q < 4294967296 := by rw [← hq]; exact HBW.out _
          have cA : wr.cell? ⟨ga, i, none⟩ = some (.int .u64 (p : Nat)) := by
            rw [← hp]
            exact (HBl.out.cell (p := ⟨ga, i, none⟩) hga).trans (HA.out i (by rw [HLA.out]; exact hlt))
          have cB : wr.cell? ⟨gb, j, none⟩ = some (.int .u64 (q : Nat)) := by
            rw [← hq]
            exact (HBl.out.cell (p := ⟨gb, j, none⟩) hgb).trans (HB'.out j (by rw [HLB.out]; exact hjl))
          have hPle : p * q ≤ 4294967295 * 4294967295 := Nat.mul_le_mul (by omega) (by omega)
          obtain ⟨P, hP⟩ : ∃ P, p * q = P := ⟨_, rfl⟩
          have hPz : (p : Int) * (q : Int) = (P : Nat) := by rw [← hP, Int.natCast_mul]
          have hPb : (P : Int) ≤ 18446744065119617025 := by omega
          have HP := Lib.hid hP
          have Hp := Lib.hid hp
          have Hq := Lib.hid hq
          clear hx hxl hp hq hpl hql hPle hP hij
          go_wp2_with fail
          go_quiet (fail)
          have HF5 : Hid (Free64 (wr.drewN nq) w.heap.size w.heap.size V) := Lib.hid (HF.out.drewN nq)
          have HB5 : Hid (Below w.heap.size w (wr.drewN nq)) := Lib.hid ⟨HBl.out.os, HBl.out.tape, HBl.out.output, HBl.out.size, HBl.out.block⟩
          clear cV cA cB
          generalize wr.drewN nq = w5 at HF5 HB5 ⊢
          have cV := HF5.out.cells (i + j) HIJ.out
          have fV := HF5.out.free (i + j) HIJ.out
          rw [HX.out] at cV
          go_wp2_with fail
          go_roundw
          case rel =>
            have hset := HF5.out.set (i + j) HIJ.out ((x + c + P) % 4294967296)
            have hv := valP_set V (i + j) ((x + c + P) % 4294967296) HIJ.out (la + lb + 1) (by rw [← HVl.out]; exact HIJ.out)
            rw [HX.out, Nat.pow_add] at hv
            rw [show (((x + c + P) % 4294967296 : Nat) : Int) = ((x : Int) + c + P) % 4294967296 by omega] at hset
            refine ⟨j + 1, (x + c + P) / 4294967296, V.set (i + j) ((x + c + P) % 4294967296), by go_num, by go_num, by omega, by omega, .inl (by omega), hset, by rw [List.length_set]; exact HVl.out, fun m => ?_, ?_, fun m h1 h2 => ?_, HB5.out.setCell (Nat.le_refl _) _⟩
            · by_cases hm : i + j = m
              · rw [← hm, wd_set_same _ _ _ HIJ.out]; exact Nat.mod_lt _ (by decide)
              · rw [wd_set_ne _ _ _ _ hm]; exact HVw.out m
            · have ms := mul_step (HVal.out) hv (show x + c + P = x + c + wd a i * q by rw [Hp.out, HP.out])
              have eb : valP b (j + 1) = valP b j + q * 4294967296 ^ j := by rw [valP, Hq.out]
              have ep : 4294967296 ^ i * 4294967296 ^ (j + 1) = 4294967296 ^ i * 4294967296 ^ j * 4294967296 := by rw [Nat.pow_succ, ← Nat.mul_assoc]
              rw [eb, ep]
              exact ms
            · rw [wd_set_ne _ _ _ _ (by omega)]
              exact HZ.out m h1 (by omega)
          case measure => simp [Go.RowKit.intOf]; omega
        · have hjz : ¬ (j : Int) < lb := by omega
          have fV := HF.out.free (i + j) hij
          by_cases hc0 : c = 0
          · subst hc0
            have hVB : Hid (valP b j = valP b lb) := Lib.hid (by rw [← HLB.out]; exact valP_len b j (by rw [HLB.out]; omega))
            clear hx hxl hij cV fV
            go_wp2_with fail
            go_roundw
            case rel =>
              have hv := HVal.out
              rw [Nat.zero_mul, Nat.add_zero, hVB.out] at hv
              refine ⟨i + 1, V, by rw [HLA.out]; omega, by go_num, HF.out, HVl.out, HVw.out, ?_, fun m h1 => HZ.out m (by omega) (by omega), HBl.out⟩
              rw [hv, valP, Nat.add_mul]
              congr 1
              rw [Nat.mul_assoc, Nat.mul_assoc, Nat.mul_comm (valP b lb)]
            case measure => simp [Go.RowKit.intOf]; omega
          · have hcp : (0 : Int) < c := by omega
            have hj2 : j = lb := by omega
            have hx0 : x = 0 := by rw [← hx]; exact HZ.out _ (by omega) (by omega)
            subst hx0
            have hcm : (c : Int) % 4294967296 = c := by omega
            have hcd : (c : Int) / 4294967296 = 0 := by omega
            have HJ2 := Lib.hid hj2
            have HC := Lib.hid hc
            clear hx hxl hij hj2 hcz hc hxz
            go_wp2_with fail
            go_roundw
            case rel =>
              have hset := HF.out.set (i + j) HIJ.out c
              have hv := valP_set V (i + j) c HIJ.out (la + lb + 1) (by have := HJ2.out; omega)
              rw [HX.out, Nat.zero_mul, Nat.add_zero, Nat.pow_add] at hv
              refine ⟨j + 1, 0, V.set (i + j) c, by go_num, by go_num, by decide, by have := HJ2.out; omega, .inr rfl, hset, by rw [List.length_set]; exact HVl.out, fun m => ?_, ?_, fun m h1 h2 => ?_, HBl.out.setCell (Nat.le_refl _) _⟩
              · by_cases hm : i + j = m
                · rw [← hm, wd_set_same _ _ _ HIJ.out]; exact HC.out
                · rw [wd_set_ne _ _ _ _ hm]; exact HVw.out m
              · rw [Nat.zero_mul, Nat.add_zero, hv, HVal.out]
                have e : valP b (j + 1) = valP b j := by rw [valP, show wd b j = 0 from wd_out (by rw [HLB.out, HJ2.out]; exact Nat.le_refl _)]; omega
                rw [e]
              · rw [wd_set_ne _ _ _ _ (by omega)]
                exact HZ.out m h1 (by omega)
            case measure => simp [Go.RowKit.intOf]; omega
    · have hz : ¬ (i : Int) < la := by omega
      have ei : i = la := by omega
      subst ei
      go_wp2_with fail
      go_ret
      exact ⟨w.heap.size, _, V, rfl, HVl.out, HF.out.cells, HF.out.lt, HVw.out, by rw [HVal.out], HBl.out⟩
end HX
end Go.Proofs.YtfkaackhikbbkaaGreatDoor
end

section
/- Layer 4: the contracts of the document's above and primes. -/
namespace Go.Proofs.YtfkaackhikbbkaaGreatDoor
open Go.RowKit Go.Lib
namespace HX
open HS HR

theorem two64 (w : World) (x y : Nat) : Free64 (w.alloc (.cells #[.int .u64 (x : Nat), .int .u64 (y : Nat)] 110)) w.heap.size w.heap.size [x, y] := by
  have hrow := heap_alloc_new w (.cells #[.int .u64 (x : Nat), .int .u64 (y : Nat)] 110)
  refine ⟨Nat.le_refl _, by simp, fun j hj => ?_, fun j _ => frozen_of_row _ _ j _ _ hrow⟩
  rw [cell_of_row _ _ j _ _ _ hrow]
  match j, hj with
  | 0, _ => rfl
  | 1, _ => rfl
theorem one64 (w : World) (x : Nat) : Free64 (w.alloc (.cells #[.int .u64 (x : Nat)] 110)) w.heap.size w.heap.size [x] := by
  have hrow := heap_alloc_new w (.cells #[.int .u64 (x : Nat)] 110)
  refine ⟨Nat.le_refl _, by simp, fun j hj => ?_, fun j _ => frozen_of_row _ _ j _ _ hrow⟩
  rw [cell_of_row _ _ j _ _ _ hrow]
  match j, hj with
  | 0, _ => rfl
theorem one_cell64 (w : World) (z : Int) (t : TypeId) : ∀ (j : Nat) u, [Value.int .u64 z][j]? = some u → (w.alloc (.cells #[.int .u64 z] t)).cell? ((⟨w.heap.size, 0, none⟩ : Addr).add j) = some u := by
  intro j u hj
  match j, hj with
  | 0, hj =>
    simp at hj
    subst hj
    simp [Addr.add]
  | j + 1, hj => simp at hj
/-- The power so far. -/
def Pow (w : World) (x : Nat) (s8 s9 : Value) (k : Nat) (wr : World) : Prop :=
  ∃ (i g c : Nat) (V : List Nat), i ≤ k ∧ s9 = .int .i64 i ∧ s8 = .slice (some ⟨g, 0, none⟩) (1 + 3 * i) c ∧ WordsAt wr g V ∧ g < wr.heap.size ∧ V.length = 1 + 3 * i ∧ (∀ j, wd V j < 4294967296) ∧ valP V V.length = x ^ i ∧ Below w.heap.size w wr
set_option maxRecDepth 100000 in
set_option maxHeartbeats 1600000 in
theorem above_any (p k : Nat) (hp : p < 4294967296) (hk : k ≤ 20) : AboveOf p k := by
  intro x w hx
  have hx0 : x % 4294967296 < 4294967296 := by omega
  have hx1 : x / 4294967296 < 4294967296 := by omega
  obtain ⟨y0, hy0⟩ : ∃ y, x % 4294967296 = y := ⟨_, rfl⟩
  obtain ⟨y1, hy1⟩ : ∃ y, x / 4294967296 = y := ⟨_, rfl⟩
  have e0 : (x : Int) % 4294967296 = (y0 : Nat) := by omega
  have e1 : (x : Int) / 4294967296 = (y1 : Nat) := by omega
  have hy0l : y0 < 4294967296 := by omega
  have hy1l : y1 < 4294967296 := by omega
  have hval : valP [y0, y1] 2 = x := by rw [valP_two]; omega
  have hwords : ∀ j, wd [y0, y1] j < 4294967296 := fun j => by
    match j with
    | 0 => exact hy0l
    | 1 => exact hy1l
    | j + 2 => rw [wd_out (by simp)]; decide
  have HX := Lib.hid hval
  have HW := Lib.hid hwords
  have HPl := Lib.hid hp
  obtain ⟨B, hB⟩ : ∃ B, aboveN x p k = B := ⟨_, rfl⟩
  rw [hB]
  have HBv := Lib.hid hB
  have hkz : (k : Int) ≤ 20 := by omega
  clear hval hwords hp hx0 hx1 hy0 hy1 hy0l hy1l hB
  go_enter Tryz.func146, Tryz.ntmps146
  go_wp2
  obtain ⟨W2, hW2⟩ : ∃ W2, (w.alloc (.cells #[.int .u64 (y0 : Nat), .int .u64 (y1 : Nat)] 110)).alloc (.cells #[.int .u64 1] 110) = W2 := ⟨_, rfl⟩
  have hA0 : Free64 W2 w.heap.size w.heap.size [y0, y1] := by rw [← hW2]; exact (two64 w y0 y1).below ((Below.refl _ _).alloc (Nat.le_refl _) _)
  have hV0 : Free64 W2 (w.heap.size + 1) (w.heap.size + 1) [1] := by
    rw [← hW2]
    have h := one64 (w.alloc (.cells #[.int .u64 (y0 : Nat), .int .u64 (y1 : Nat)] 110)) 1
    rw [show (w.alloc (.cells #[.int .u64 (y0 : Nat), .int .u64 (y1 : Nat)] 110)).heap.size = w.heap.size + 1 by simp] at h
    exact h
  have hbW : Below w.heap.size w W2 := by rw [← hW2]; exact ((Below.refl _ _).alloc (Nat.le_refl _) _).alloc (by simp) _
  rw [hW2, e0]
  have HA0 := Lib.hid hA0
  have HV0 := Lib.hid hV0
  have HBW := Lib.hid hbW
  clear hW2 hA0 hV0 hbW e0 e1
  go_loopw [8, 9] (fun s8 s9 wr => Pow W2 x s8 s9 k wr) (fun _ s9 _ => k - (Go.RowKit.intOf s9).toNat)
  case atStart => exact ⟨0, w.heap.size + 1, 1, [1], Nat.zero_le _, rfl, rfl, HV0.out.cells, HV0.out.lt, rfl, fun j => by
      match j with
      | 0 => decide
      | j + 1 => rw [wd_out (by simp)]; decide, by simp [valP, wd], Below.refl _ _⟩
  case round =>
    clear HV0
    obtain ⟨i, g, c, V, hi, rfl, rfl, hVa, hg, hVl, hVw, hval, hb⟩ := hrel
    have HVa := Lib.hid hVa
    have HVl := Lib.hid hVl
    have HVw := Lib.hid hVw
    have HVal := Lib.hid hval
    have HB := Lib.hid hb
    clear hVa hVl hVw hval hb
    by_cases hlt : i < k
    · have hz : (i : Int) < k := by omega
      have cT : Calls Tryz.prog 158 #[.slice (some ⟨g, 0, none⟩) (1 + 3 * i) c, .slice (some ⟨w.heap.size, 0, none⟩) 2 2] wr (NumPost (x ^ (i + 1)) (1 + 3 * (i + 1)) wr) := by
        have hA := HA0.out.below HB.out
        have h := rtimes_any g c w.heap.size 2 V [y0, y1] wr HVa.out hg hA.cells hA.lt (by rw [HVl.out]; omega) (by simp) HVw.out HW.out
        rw [HVal.out, show [y0, y1].length = 2 from rfl, HX.out, HVl.out, ← Nat.pow_succ, show 1 + 3 * i + 2 + 1 = 1 + 3 * (i + 1) by omega] at h
        exact h
      have CT := Lib.hid cT
      clear cT
      go_wp2_with (go_at_call 158; refine CT.out.mono ?_; rintro r w3 ⟨g3, c3, V3, rfl, hl3, hc3, hg3, hw3, hv3, hb3⟩; have H3 := Lib.hid (And.intro hl3 (And.intro hc3 (And.intro hg3 (And.intro hw3 (And.intro hv3 hb3))))); clear hl3 hc3 hg3 hw3 hv3 hb3)
      go_roundw
      case rel =>
        obtain ⟨hl3, hc3, hg3, hw3, hv3, hb3⟩ := H3.out
        exact ⟨i + 1, g3, c3, V3, by omega, by go_num, rfl, hc3, hg3, hl3, hw3, by rw [hl3]; exact hv3, Below.trans HB.out (hb3.mono HB.out.size)⟩
      case measure => simp [Go.RowKit.intOf]; omega
    · have hz : ¬ (i : Int) < k := by omega
      have ei : i = k := by omega
      subst ei
      obtain ⟨i0, hi0, hz0, hz1, hz2⟩ := info64
      obtain ⟨w5, hmk, ho, hb5⟩ := made64 wr i (by omega)
      have HO := Lib.hid ho
      have HB5 := Lib.hid hb5
      have hs5 := hb5.size
      clear ho hb5
      go_wp2_with (at_builtin; refine wpList_append_own _ rfl _ _ 145 rfl wr.heap.size 110 i0 (.int .u64 0) 1 8 Tryz.underlying145 hi0 hz0 hz1 hz2 rfl (by decide) _ _ _ rfl (HO.out.alloc _) ⟨w5.heap.size, 0, none⟩ 1 1 [_] rfl rfl (one_cell64 _ _ _) (fun x hx => by simp at hx; subst hx; rfl) (by unfold maxLen; omega) (by omega) (by simp; omega) ?_; intro v6 w6 hown6 hgrow6 hnil6; have HO6 := Lib.hid hown6; have HB6 := Lib.hid (Below.grown (Below.alloc HB5.out hs5 _) hgrow6 (by simp; omega) (fun j hj => (HO.out.lt j hj).1)); clear hown6 hgrow6 hnil6)
      have hW := own64 (W := w6) (B := wr.heap.size) (v := v6) (l := List.replicate i 0 ++ [p]) (by
        have h := HO6.out
        rw [List.length_append, List.length_replicate, List.map_append]
        exact h) (by simp)
      obtain ⟨g6, c6, hv6, hF6⟩ := hW
      have hl6 : (List.replicate i 0 ++ [p]).length = i + 1 := by simp
      rw [hl6] at hv6
      subst hv6
      have hVa6 : WordsAt w6 g V := fun j hj => (HB6.out.cell (p := ⟨g, j, none⟩) hg).trans (HVa.out j hj)
      have hpw : ∀ j, wd (List.replicate i 0 ++ [p]) j < 4294967296 := fun j => by
        by_cases hj : j < i
        · rw [wd_app _ _ _ (by simpa using hj), wd_zero]; decide
        · by_cases hj2 : j = i
          · have h1 := wd_snoc (List.replicate i 0) p
            rw [List.length_replicate] at h1
            rw [hj2, h1]
            exact HPl.out
          · rw [wd_out (by rw [hl6]; omega)]; decide
      have cG : Calls Tryz.prog 159 #[.slice (some ⟨g, 0, none⟩) (1 + 3 * i) c, .slice (some ⟨g6, 0, none⟩) (i + 1) c6] w6 fun e w' => e = .returned (.bool B) ∧ w6 = w' := by
        have h := rgreater_any g g6 c c6 V (List.replicate i 0 ++ [p]) w6 hVa6 hF6.cells (by rw [HVl.out]; omega) (by rw [hl6]; omega)
        rw [gt_val _ _ HVw.out hpw, valP_len _ _ (Nat.le_max_right _ _), valP_len _ _ (Nat.le_max_left _ _), HVal.out, hl6, valP_high, pow_32, HVl.out] at h
        have e : decide (p * 2 ^ (32 * i) < x ^ i) = B := by rw [← HBv.out]; rfl
        rw [e] at h
        exact h
      have HBe := Lib.hid (Below.trans HBW.out (Below.mono (Below.trans HB.out (HB6.out.mono HB.out.size)) HBW.out.size))
      clear hVa6 hpw hF6 hl6
      go_wp2_with (go_at_call 159; refine cG.mono ?_; rintro r w7 ⟨rfl, rfl⟩)
      go_ret
      exact ⟨rfl, HBe.out⟩
end HX
end Go.Proofs.YtfkaackhikbbkaaGreatDoor
end

section
/- Layer 4: the contract of the document's primes. -/
namespace Go.Proofs.YtfkaackhikbbkaaGreatDoor
open Go.RowKit Go.Lib
namespace HX
open HS HR

theorem shape64 {W : World} {B : Nat} {v : Value} {l : List Nat} (h : W.ownsRow B 110 1 v l.length (l.map fun x : Nat => Value.int .u64 x)) : ∃ ao cap, v = .slice ao l.length cap ∧ (0 < l.length → ∃ g, ao = some ⟨g, 0, none⟩ ∧ g < W.heap.size ∧ WordsAt W g l) := by
  by_cases h0 : 0 < l.length
  · obtain ⟨g, cap, hv, hF⟩ := own64 h h0
    exact ⟨_, cap, hv, fun _ => ⟨g, rfl, hF.lt, hF.cells⟩⟩
  · rcases h.2 with ⟨hv, hn⟩ | ⟨g, cap, cur, hv, _⟩
    · exact ⟨none, 0, by rw [hv, hn], fun h1 => absurd h1 h0⟩
    · exact ⟨_, cap, hv, fun h1 => absurd h1 h0⟩
theorem primes_len : (primesN 64).length = 64 := by decide +kernel
theorem primes_small : ∀ q ∈ primesN 64, q < 4294967296 := by decide +kernel
theorem fresh_take (l : List Nat) (p i q : Nat) (h : l[i]? = some q) : isFresh (l.take (i + 1)) p = (isFresh (l.take i) p && (p % q != 0)) := by
  unfold isFresh
  rw [List.take_add_one, h, List.all_append]
  simp
/-- The list of primes, as it is made. -/
def PrLoop (w : World) (s3 s4 : Value) (wr : World) : Prop :=
  ∃ (fuel p : Nat) (l : List Nat), s4 = .int .u64 p ∧ 2 ≤ p ∧ p + fuel = 1002 ∧ primesGo fuel 64 p l = primesN 64 ∧ l.length ≤ 64 ∧ (∀ q ∈ l, 2 ≤ q) ∧ wr.ownsRow w.heap.size 110 1 s3 l.length (l.map fun x : Nat => Value.int .u64 x) ∧ Below w.heap.size w wr
def PrPost (w : World) (r : Ending) (w' : World) : Prop := ∃ g c, r = .returned (.slice (some ⟨g, 0, none⟩) 64 c) ∧ WordsAt w' g (primesN 64) ∧ g < w'.heap.size ∧ Below w.heap.size w w'
set_option maxRecDepth 100000 in
set_option maxHeartbeats 1600000 in
theorem rprimes_any (w : World) : Calls Tryz.prog 122 #[.int .i64 64] w (PrPost w) := by
  obtain ⟨i0, hi0, hz0, hz1, hz2⟩ := info64
  go_enter Tryz.func122, Tryz.ntmps122
  go_wp2
  go_loopw [3, 4, 5, 6] (fun s3 s4 _ _ wr => PrLoop w s3 s4 wr) (fun _ s4 _ _ _ => 1003 - (Go.RowKit.intOf s4).toNat)
  case atStart => exact ⟨1000, 2, [], rfl, Nat.le_refl _, rfl, rfl, by simp, fun q hq => by simp at hq, World.ownsRow_nil _ _ _ _, Below.refl _ _⟩
  case round =>
    obtain ⟨fuel, p, l, rfl, hp2, hf, hgo, hll, hq2, hown, hb⟩ := hrel
    obtain ⟨ao, cap, hv, hcell⟩ := shape64 hown
    obtain ⟨n, hn⟩ : ∃ n, l.length = n := ⟨_, rfl⟩
    rw [hn] at hv hll hcell
    subst hv
    have HO := Lib.hid hown
    have HB := Lib.hid hb
    have hbs := hb.size
    have HGo := Lib.hid hgo
    have HN := Lib.hid hn
    have HQ := Lib.hid hq2
    have HC := Lib.hid hcell
    have hp1 : (p : Int) ≤ 1002 := by omega
    clear hown hb hgo hn hq2 hcell
    by_cases hlt : n < 64
    · have hz : (n : Int) < 64 := by omega
      obtain ⟨f, rfl⟩ : ∃ f, fuel = f + 1 := by
        cases fuel with
        | zero =>
          have h := HGo.out
          rw [primesGo] at h
          have := primes_len
          rw [← h, HN.out] at this
          omega
        | succ f => exact ⟨f, rfl⟩
      have HGo2 : Hid (primesGo f 64 (p + 1) (if isFresh l p = true then l ++ [p] else l) = primesN 64) := Lib.hid (by
        have h := HGo.out
        rw [primesGo, if_neg (by rw [HN.out]; omega)] at h
        exact h)
      clear HGo
      go_wp2_with fail
      go_loop [5, 6] (fun s5 s6 => ∃ i : Nat, i ≤ n ∧ s6 = .int .i64 i ∧ s5 = .bool (isFresh (l.take i) p)) (fun _ s6 => n - (Go.RowKit.intOf s6).toNat)
      case atStart => exact ⟨0, Nat.zero_le _, rfl, rfl⟩
      case round =>
        obtain ⟨i, hi, rfl, rfl⟩ := hrel
        by_cases hil : i < n
        · have hiz : (i : Int) < n := by omega
          obtain ⟨g, rfl, hg, hW⟩ := HC.out (by omega)
          have hx : l[i]? = some (wd l i) := by
            have h1 : i < l.length := by rw [HN.out]; exact hil
            rw [List.getElem?_eq_getElem h1]
            congr 1
            exact (wd_get (List.getElem?_eq_getElem h1)).symm
          have cq := hW i (by rw [HN.out]; exact hil)
          obtain ⟨q, hq⟩ : ∃ q, wd l i = q := ⟨_, rfl⟩
          rw [hq] at hx cq
          have h2 : 2 ≤ q := HQ.out q (List.mem_of_getElem? hx)
          have hq0 : ¬ (q : Int) = 0 := by omega
          have hqp : (0 : Int) < q := by omega
          have HT := Lib.hid (fresh_take l p i q hx)
          obtain ⟨b, hb⟩ : ∃ b, isFresh (l.take i) p = b := ⟨_, rfl⟩
          have HBb := Lib.hid hb
          rw [hb]
          clear hx hq hb
          by_cases hm : p % q = 0
          · have hmb : ((p : Int) % (q : Int) == 0) = true := by rw [beq_iff_eq]; omega
            have HM := Lib.hid hm
            clear hm
            go_wp2_with fail
            go_round
            case rel => exact ⟨i + 1, by omega, by go_num, by rw [HT.out, HM.out]; simp⟩
            case measure => simp [Go.RowKit.intOf]; omega
          · have hmb : ((p : Int) % (q : Int) == 0) = false := by rw [beq_eq_false_iff_ne]; omega
            have HM := Lib.hid hm
            clear hm
            go_wp2_with fail
            go_round
            case rel => exact ⟨i + 1, by omega, by go_num, by rw [HT.out, HBb.out]; have := HM.out; simp [this]⟩
            case measure => simp [Go.RowKit.intOf]; omega
        · have hiz : ¬ (i : Int) < n := by omega
          have HT : Hid (l.take i = l) := Lib.hid (List.take_of_length_le (by rw [HN.out]; omega))
          rw [HT.out]
          by_cases hfr : isFresh l p = true
          · have HGo3 : Hid (primesGo f 64 (p + 1) (l ++ [p]) = primesN 64) := Lib.hid (by have h := HGo2.out; rw [if_pos hfr] at h; exact h)
            rw [hfr]
            clear HGo2 hfr
            go_wp2_with (at_builtin; refine wpList_append_own _ rfl _ _ 145 rfl w.heap.size 110 i0 (.int .u64 0) 1 8 Tryz.underlying145 hi0 hz0 hz1 hz2 rfl (by decide) _ _ _ rfl (HO.out.alloc _) ⟨wr.heap.size, 0, none⟩ 1 1 [_] rfl rfl (one_cell64 _ _ _) (fun x hx => by simp at hx; subst hx; rfl) (by rw [HN.out]; unfold maxLen; omega) (by rw [HN.out]; omega) (by simp; omega) ?_; intro v6 w6 hown6 hgrow6 hnil6; have HO6 := Lib.hid hown6; have HB6 := Lib.hid (Below.grown (Below.alloc HB.out hbs _) hgrow6 (by simp; omega) (fun j hj => (HO.out.lt j hj).1)); clear hown6 hgrow6 hnil6)
            go_roundw
            case rel =>
              refine ⟨f, p + 1, l ++ [p], by go_num, by omega, by omega, HGo3.out, by rw [List.length_append, HN.out]; exact hlt, fun q hq => ?_, ?_, HB6.out⟩
              · rcases List.mem_append.1 hq with h | h
                · exact HQ.out q h
                · rw [List.mem_singleton] at h
                  omega
              · have h := HO6.out
                rw [List.length_append, List.map_append]
                exact h
            case measure => simp [Go.RowKit.intOf]; omega
          · have HGo3 : Hid (primesGo f 64 (p + 1) l = primesN 64) := Lib.hid (by have h := HGo2.out; rw [if_neg hfr] at h; exact h)
            rw [Bool.not_eq_true] at hfr
            rw [hfr]
            clear HGo2 hfr
            go_wp2_with fail
            go_roundw
            case rel => exact ⟨f, p + 1, l, by go_num, by omega, by omega, HGo3.out, by rw [HN.out]; exact hll, HQ.out, by have h := HO.out; rw [HN.out] at h ⊢; exact h, HB.out⟩
            case measure => simp [Go.RowKit.intOf]; omega
    · have hz : ¬ (n : Int) < 64 := by omega
      have en : n = 64 := by omega
      subst en
      obtain ⟨g, rfl, hg, hW⟩ := HC.out (by decide)
      have HL : Hid (l = primesN 64) := Lib.hid (by
        have h := HGo.out
        cases fuel with
        | zero => exact h
        | succ f => rw [primesGo, if_pos (by rw [HN.out]; exact Nat.le_refl _)] at h; exact h)
      have HW := Lib.hid hW
      clear hW
      go_wp2_with fail
      go_ret
      exact ⟨g, cap, rfl, HL.out ▸ HW.out, hg, HB.out⟩
end HX
end Go.Proofs.YtfkaackhikbbkaaGreatDoor
end

section
/- Layer 4: the contracts of the program's mix (and the library's RotateLeft32), weak and Roll. -/
namespace Go.Proofs.YtfkaackhikbbkaaGreatDoor
open Go.RowKit Go.Lib
namespace HQ
open HP HS HR

theorem and31 : ∀ n : Nat, n < 32 → 0 < n → bits .and .u64 (IntKind.u64.wrap (-(n : Int))) 31 = ((32 - n : Nat) : Int) := by decide +kernel
set_option maxRecDepth 100000 in
set_option maxHeartbeats 1600000 in
theorem rot_any (x n : Nat) (w : World) (hx : x < 4294967296) (h0 : 1 ≤ n) (h1 : n ≤ 31) :
    Calls Tryz.prog 144 #[.int .u32 x, .int .i64 (-(n : Int))] w fun e w' => e = .returned (.int .u32 (rotr x n : Nat)) ∧ w = w' := by
  have HA := and31 n (by omega) (by omega)
  go_enter Tryz.func144, Tryz.ntmps144
  go_wp2_with fail
  go_ret
  refine ⟨?_, rfl⟩
  have e2 : 32 - (32 - n) = n := by omega
  rw [e2]
  have e4 : bits .or .u32 ((x : Int) * 2 ^ (32 - n) % 4294967296) ((x : Int) / 2 ^ n) = (rotr x n : Nat) := by
    have e5 : (x : Int) / 2 ^ n = ((x / 2 ^ n : Nat) : Int) := by simp
    have e6 : (x : Int) * 2 ^ (32 - n) % 4294967296 = ((x * 2 ^ (32 - n) % 4294967296 : Nat) : Int) := by simp
    rw [e5, e6, or_u32 _ _ (by omega) (Nat.lt_of_le_of_lt (Nat.div_le_self _ _) (by omega)), Nat.or_comm]
    rfl
  exact congrArg (fun z => Ending.returned (Value.int .u32 z)) e4
set_option maxRecDepth 100000 in
set_option maxHeartbeats 1600000 in
theorem mix_any (x a b c : Nat) (w : World) (hx : x < 4294967296) (ha : 1 ≤ a ∧ a ≤ 31) (hb : 1 ≤ b ∧ b ≤ 31) (hc : 1 ≤ c ∧ c ≤ 31) :
    Calls Tryz.prog 119 #[.int .u32 x, .int .i64 a, .int .i64 b, .int .i64 c] w fun e w' => e = .returned (.int .u32 (rotr x a ^^^ rotr x b ^^^ rotr x c : Nat)) ∧ w = w' := by
  have haz : (1 : Int) ≤ a ∧ (a : Int) ≤ 31 := by omega
  have hbz : (1 : Int) ≤ b ∧ (b : Int) ≤ 31 := by omega
  have hcz : (1 : Int) ≤ c ∧ (c : Int) ≤ 31 := by omega
  have la := rotr_lt x a hx
  have lb := rotr_lt x b hx
  have lc := rotr_lt x c hx
  have H1 := Lib.hid (xor_u32 _ _ la lb)
  have H2 := Lib.hid (xor_u32 _ _ (Nat.xor_lt_two_pow la lb) lc)
  have HA := Lib.hid ha
  have HB := Lib.hid hb
  have HC := Lib.hid hc
  clear ha hb hc la lb lc
  have cA := fun W => rot_any x a W hx HA.out.1 HA.out.2
  have cB := fun W => rot_any x b W hx HB.out.1 HB.out.2
  have cC := fun W => rot_any x c W hx HC.out.1 HC.out.2
  go_enter Tryz.func119, Tryz.ntmps119
  go_wp2_with (go_at_call 144; (first | (with_reducible refine (cA _).mono ?_) | (with_reducible refine (cB _).mono ?_) | (with_reducible refine (cC _).mono ?_)); rintro e w' ⟨rfl, rfl⟩)
  go_ret
  refine ⟨?_, rfl⟩
  rw [← H2.out, ← H1.out]
  rfl
end HQ
end Go.Proofs.YtfkaackhikbbkaaGreatDoor
end

section
/- Layer 4: what the program's tables hold (Env), and the contracts of its Weak and Crc. -/
namespace Go.Proofs.YtfkaackhikbbkaaGreatDoor
open Go.RowKit Go.Lib
namespace HQ
open HP HS HR

def startL : List Nat := [0x6a09e667, 0xbb67ae85, 0x3c6ef372, 0xa54ff53a, 0x510e527f, 0x9b05688c, 0x1f83d9ab, 0x5be0cd19]
/-- The program's three tables, as they lie in memory. -/
structure Env (w : World) : Prop where
  chk : ∀ i : Nat, i < 16 → w.cell? ⟨2, i, none⟩ = some (.int .u32 (csts 4 i : Nat))
  rnd : ∀ i : Nat, i < 64 → w.cell? ⟨1, i, none⟩ = some (.int .u32 (roundK.getD i 0 : Nat))
  beg : ∀ i : Nat, i < 8 → w.cell? ⟨0, i, none⟩ = some (.int .u32 (startL.getD i 0 : Nat))
theorem Env.below {w w' : World} (h : Env w) (hb : Below w.heap.size w w') : Env w' :=
  ⟨fun i hi => by rw [hb.cell (World.block_lt_of_cell? _ _ (h.chk i hi))]; exact h.chk i hi, fun i hi => by rw [hb.cell (World.block_lt_of_cell? _ _ (h.rnd i hi))]; exact h.rnd i hi, fun i hi => by rw [hb.cell (World.block_lt_of_cell? _ _ (h.beg i hi))]; exact h.beg i hi⟩

theorem nib (u : Nat) : u / 16 ^^^ csts 4 (u % 16) = csts 4 u := by
  have e : u = (u / 16 * 2 ^ 4) ^^^ (u % 16) := by
    have h := Nat.two_pow_add_eq_or_of_lt (i := 4) (b := u % 16) (by omega) (u / 16)
    have h2 : (2 ^ 4 * (u / 16)) ^^^ (u % 16) = (2 ^ 4 * (u / 16)) ||| (u % 16) := by
      apply Nat.eq_of_testBit_eq
      intro j
      rw [Nat.testBit_xor, Nat.testBit_or, Nat.testBit_two_pow_mul]
      by_cases hj : 4 ≤ j
      · have : (u % 16).testBit j = false := Nat.testBit_lt_two_pow (Nat.lt_of_lt_of_le (show u % 16 < 2 ^ 4 by omega) (Nat.pow_le_pow_right (by decide) hj))
        simp [this]
      · simp [hj]
    rw [Nat.mul_comm, h2, ← h]
    omega
  conv => rhs; rw [e, csts_xor, csts_shift]
theorem nib_lt (u : Nat) (h : u < 4294967296) : csts 4 u < 4294967296 := csts_lt 4 h
theorem crcB_nib (v : Nat) (b : UInt8) : csts 4 (csts 4 (v ^^^ b.toNat)) = crcB v b := csts_add 4 4 _
theorem and_15 (u : Nat) (h : u < 4294967296) : bits .and .u32 (u : Int) 15 = ((u % 16 : Nat) : Int) := by
  have h := and_u32 u 15 h (by decide)
  rw [show (15 : Nat) = 2 ^ 4 - 1 by decide, Nat.and_two_pow_sub_one_eq_mod] at h
  exact h
set_option maxRecDepth 100000 in
set_option maxHeartbeats 1600000 in
theorem crc_any (s : ByteArray) (w : World) (he : Env w) (hs : s.size ≤ maxLen) :
    Calls Tryz.prog 100 #[.string s] w fun e w' => e = .returned (.int .u32 (crcL s.data.toList : Nat)) ∧ w = w' := by
  unfold maxLen at hs
  have HS := Lib.hid (size_data s)
  have HE := Lib.hid he
  clear he
  go_enter Tryz.func100, Tryz.ntmps100
  go_wp2
  go_loop [3, 4, 7] (fun s3 _ s7 => ∃ k v : Nat, k ≤ s.size ∧ s7 = .int .i64 k ∧ s3 = .int .u32 v ∧ v < 2 ^ 32 ∧ crcR 4294967295 (s.data.toList.take k) = v) (fun _ _ s7 => s.size - (Go.RowKit.intOf s7).toNat)
  case atStart => exact ⟨0, 4294967295, Nat.zero_le _, rfl, rfl, by decide, rfl⟩
  case round =>
    obtain ⟨k, v, hk, rfl, rfl, hv, hc⟩ := hrel
    have HV := Lib.hid hv
    have HC := Lib.hid hc
    clear hc
    by_cases hlt : k < s.size
    · have hz : (k : Int) < s.size := by omega
      have hb := (s[k]).toNat_lt
      have HX := Lib.hid (xor_u32 v (s[k]).toNat hv (by omega))
      have HT := Lib.hid (take_at (Lib.data_getElem? s k hlt))
      have hbz : ((s[k].toNat : Nat) : Int) < 256 := by omega
      obtain ⟨u, hu⟩ : ∃ u, u = v ^^^ (s[k]).toNat := ⟨_, rfl⟩
      have hul : u < 4294967296 := by rw [hu]; exact Nat.xor_lt_two_pow hv (show (s[k]).toNat < 2 ^ 32 by omega)
      have x1 : bits .xor .u32 (v : Int) ((s[k].toNat : Nat) : Int) = u := by rw [HX.out, hu]
      obtain ⟨i, hi⟩ : ∃ i, i = u % 16 := ⟨_, rfl⟩
      have hi16 : (i : Int) < 16 := by omega
      have a1 : bits .and .u32 (u : Int) 15 = i := by rw [and_15 u hul, hi]
      have c1 := HE.out.chk i (by omega)
      obtain ⟨t, ht⟩ : ∃ t, t = csts 4 u := ⟨_, rfl⟩
      have htl : t < 4294967296 := by rw [ht]; exact nib_lt u hul
      have x2 : bits .xor .u32 ((u : Int) / 16) ((csts 4 i : Nat) : Int) = t := by
        rw [show (u : Int) / 16 = ((u / 16 : Nat) : Int) by omega, xor_u32 _ _ (by omega) (nib_lt i (by omega)), hi, nib, ht]
      obtain ⟨j, hj⟩ : ∃ j, j = t % 16 := ⟨_, rfl⟩
      have hj16 : (j : Int) < 16 := by omega
      have a2 : bits .and .u32 (t : Int) 15 = j := by rw [and_15 t htl, hj]
      have c2 := HE.out.chk j (by omega)
      obtain ⟨r, hr⟩ : ∃ r, r = csts 4 t := ⟨_, rfl⟩
      have hrl : r < 4294967296 := by rw [hr]; exact nib_lt t htl
      have x3 : bits .xor .u32 ((t : Int) / 16) ((csts 4 j : Nat) : Int) = r := by
        rw [show (t : Int) / 16 = ((t / 16 : Nat) : Int) by omega, xor_u32 _ _ (by omega) (nib_lt j (by omega)), hj, nib, hr]
      have HR : Hid (crcB v s[k] = r) := Lib.hid (by rw [hr, ht, hu, crcB_nib])
      have huz : (u : Int) < 4294967296 := by omega
      have htz : (t : Int) < 4294967296 := by omega
      have HRL := Lib.hid hrl
      clear hv hb hu hi ht hj hr hul htl hrl
      go_wp2_with fail
      go_round
      case rel => exact ⟨k + 1, r, by omega, by go_num, rfl, HRL.out, by rw [HT.out, crcR_snoc, HC.out, HR.out]⟩
      case measure => simp [Go.RowKit.intOf]; omega
    · have hz : ¬ (k : Int) < s.size := by omega
      have HF : Hid (crcL s.data.toList = v ^^^ 4294967295) := Lib.hid (by
        unfold crcL
        rw [← HC.out, List.take_of_length_le (by rw [← HS.out]; omega)])
      have HX := Lib.hid (xor_u32 4294967295 v (by decide) hv)
      clear hv
      go_wp2_with fail
      go_ret
      exact ⟨by rw [HF.out, Nat.xor_comm]; exact congrArg (fun z => Ending.returned (Value.int .u32 z)) HX.out, rfl⟩
end HQ
end Go.Proofs.YtfkaackhikbbkaaGreatDoor
end

section
/- Layer 4: arrays of words that lie in memory whole, and what loads and stores of them do. -/
namespace Go.Proofs.YtfkaackhikbbkaaGreatDoor
open Go.RowKit Go.Lib
namespace HQ
open HP HS HR

/-- Words in the cells of an array. -/
def cellsU (l : List Nat) : Array Value := (l.map fun n : Nat => Value.int .u32 n).toArray
theorem cellsU_size (l : List Nat) : (cellsU l).size = l.length := by simp [cellsU]
theorem cellsU_get (l : List Nat) (i : Nat) : (cellsU l)[i]? = (l[i]?).map fun n : Nat => Value.int .u32 n := by simp [cellsU]
theorem cellsU_set (l : List Nat) (i n : Nat) : (cellsU l).setIfInBounds i (.int .u32 (n : Nat)) = cellsU (l.set i n) := by
  unfold cellsU
  rw [List.setIfInBounds_toArray, List.map_set]
theorem cellsU_one (l : List Nat) : (cellsU l).all (·.oneCell') = true := by
  rw [Array.all_eq_true_iff_forall_mem]
  intro v hv
  simp [cellsU] at hv
  obtain ⟨n, _, rfl⟩ := hv
  rfl
/-- These words are block g. -/
def Row (w : World) (g : Nat) (l : List Nat) (t : TypeId) : Prop := w.heap[g]? = some (.cells (cellsU l) t (0, 0))
theorem Row.lt {w : World} {g : Nat} {l : List Nat} {t : TypeId} (h : Row w g l t) : g < w.heap.size := by
  rcases Nat.lt_or_ge g w.heap.size with h1 | h1
  · exact h1
  · unfold Row at h
    rw [Array.getElem?_eq_none h1] at h
    cases h
theorem Row.cell {w : World} {g : Nat} {l : List Nat} {t : TypeId} (h : Row w g l t) {i x : Nat} (hx : l[i]? = some x) : w.cell? ⟨g, i, none⟩ = some (.int .u32 (x : Nat)) := by
  rw [cell_of_row w g i _ t (0, 0) h, cellsU_get, hx]
  rfl
theorem Row.frozen {w : World} {g : Nat} {l : List Nat} {t : TypeId} (h : Row w g l t) (i : Nat) : w.frozen? ⟨g, i, none⟩ = false := frozen_of_row w g i _ t h
theorem Row.drew {w : World} {g : Nat} {l : List Nat} {t : TypeId} (h : Row w g l t) : Row w.drew g l t := h
theorem Row.new (w : World) (l : List Nat) (t : TypeId) : Row (w.alloc (.cells (cellsU l) t)) w.heap.size l t := heap_alloc_new w _
theorem Row.newAt (w : World) (l : List Nat) (t : TypeId) {g : Nat} (hg : g = w.heap.size) : Row (w.alloc (.cells (cellsU l) t)) g l t := hg ▸ heap_alloc_new w _
theorem Row.alloc {w : World} {g : Nat} {l : List Nat} {t : TypeId} (h : Row w g l t) (o : Obj) : Row (w.alloc o) g l t := (Below.heap_alloc w o g h.lt).trans h
theorem Row.set {w : World} {g : Nat} {l : List Nat} {t : TypeId} (h : Row w g l t) (i x : Nat) : Row (w.setCell ⟨g, i, none⟩ (.int .u32 (x : Nat))) g (l.set i x) t := by
  unfold Row
  rw [heap_setCell_same w g i _ t _ h, cellsU_set]
theorem Row.setOther {w : World} {g : Nat} {l : List Nat} {t : TypeId} (h : Row w g l t) {a : Addr} (v : Value) (ha : g ≠ a.block) : Row (w.setCell a v) g l t := by
  unfold Row
  rw [heap_setCell_other w a g v ha]
  exact h
theorem Row.setRow {w : World} {g : Nat} {l : List Nat} {t : TypeId} (h : Row w g l t) (m : List Nat) : Row (w.setRow g (cellsU m)) g m t := setRow_heap w g _ _ t (0, 0) h
theorem Row.setRowOther {w : World} {g : Nat} {l : List Nat} {t : TypeId} (h : Row w g l t) {k : Nat} (cs : Array Value) (hk : g ≠ k) : Row (w.setRow k cs) g l t := (setRow_other w k g cs hk).trans h
theorem Row.below {B : Nat} {w w' : World} {g : Nat} {l : List Nat} {t : TypeId} (h : Row w g l t) (hb : Below B w w') (hg : g < B) : Row w' g l t := (hb.block g hg).trans h
theorem below_setRow {B : Nat} {a w : World} (h : Below B a w) {g : Nat} (hg : B ≤ g) (cs : Array Value) : Below B a (w.setRow g cs) :=
  ⟨h.os, h.tape, h.output, by rw [setRow_size]; exact h.size, fun k hk => (setRow_other w g k cs (by omega)).trans (h.block k hk)⟩
end HQ
end Go.Proofs.YtfkaackhikbbkaaGreatDoor
end

section
/- Layer 4: the contract of the program's plus (states are arrays that are handed on by value). -/
namespace Go.Proofs.YtfkaackhikbbkaaGreatDoor
open Go.RowKit Go.Lib
namespace HQ
open HP HS HR

/-- The sums of both, word by word, the first k of them. -/
def plusL (xs ys : List Nat) : Nat → List Nat
  | 0 => xs
  | k + 1 => (plusL xs ys k).set k ((xs.getD k 0 + ys.getD k 0) % 4294967296)
theorem plusL_len (xs ys : List Nat) : ∀ k, (plusL xs ys k).length = xs.length
  | 0 => rfl
  | k + 1 => by rw [plusL, List.length_set, plusL_len xs ys k]
theorem plusL_at (xs ys : List Nat) (j : Nat) : ∀ k, k ≤ j → (plusL xs ys k)[j]? = xs[j]?
  | 0, _ => rfl
  | k + 1, h => by rw [plusL, List.getElem?_set_ne (by omega), plusL_at xs ys j k (by omega)]
theorem zero8 : #[Value.int .u32 0, Value.int .u32 0, Value.int .u32 0, Value.int .u32 0, Value.int .u32 0, Value.int .u32 0, Value.int .u32 0, Value.int .u32 0] = cellsU (List.replicate 8 0) := by simp [cellsU, List.replicate]
set_option maxRecDepth 100000 in
set_option maxHeartbeats 1600000 in
theorem plus_any (xs ys : List Nat) (w : World) (hx : xs.length = 8) (hy : ys.length = 8) (hxl : ∀ x ∈ xs, x < 4294967296) (hyl : ∀ y ∈ ys, y < 4294967296) :
    Calls Tryz.prog 120 #[.agg (cellsU xs), .agg (cellsU ys)] w fun e w' => e = .returned (.agg (cellsU (plusL xs ys 8))) ∧ Below w.heap.size w w' := by
  have HX := Lib.hid hx
  have HY := Lib.hid hy
  have HXL := Lib.hid hxl
  have HYL := Lib.hid hyl
  clear hx hy hxl hyl
  go_enter Tryz.func120, Tryz.ntmps120
  go_wp2
  rw [zero8]
  go_loopw [5, 6] (fun _ s6 wr => ∃ k : Nat, k ≤ 8 ∧ s6 = .int .i64 k ∧ Row wr w.heap.size (plusL xs ys k) 81 ∧ Row wr (w.heap.size + 1) ys 81 ∧ Row wr (w.heap.size + 2) (List.replicate 8 0) 81 ∧ Below w.heap.size w wr) (fun _ s6 _ => 8 - (Go.RowKit.intOf s6).toNat)
  case atStart =>
    exact ⟨0, Nat.zero_le _, rfl, ((Row.new w xs 81).alloc _).alloc _, (Row.newAt _ ys 81 (by simp)).alloc _, Row.newAt _ (List.replicate 8 0) 81 (by simp), (((Below.refl _ _).alloc (Nat.le_refl _) _).alloc (by simp) _).alloc (by simp; omega) _⟩
  case round =>
    obtain ⟨k, hk, rfl, h1, h2, h3, hb⟩ := hrel
    have H1 := Lib.hid h1
    have H2 := Lib.hid h2
    have H3 := Lib.hid h3
    have HB := Lib.hid hb
    clear h1 h2 h3 hb
    by_cases hlt : k < 8
    · have hz : (k : Int) < 8 := by omega
      obtain ⟨x, hx1⟩ : ∃ x, xs[k]? = some x := ⟨xs[k]'(by rw [HX.out]; exact hlt), List.getElem?_eq_getElem _⟩
      obtain ⟨y, hy1⟩ : ∃ y, ys[k]? = some y := ⟨ys[k]'(by rw [HY.out]; exact hlt), List.getElem?_eq_getElem _⟩
      have c1 := H1.out.cell ((plusL_at xs ys k k (Nat.le_refl _)).trans hx1)
      have f1 := H1.out.frozen k
      have c2 := H2.out.cell hy1
      have hxz : (x : Int) < 4294967296 := by have := HXL.out x (List.mem_of_getElem? hx1); omega
      have hyz : (y : Int) < 4294967296 := by have := HYL.out y (List.mem_of_getElem? hy1); omega
      have HS : Hid (plusL xs ys (k + 1) = (plusL xs ys k).set k ((x + y) % 4294967296)) := Lib.hid (by
        rw [plusL, List.getD_eq_getElem?_getD, List.getD_eq_getElem?_getD, hx1, hy1]
        rfl)
      clear hx1 hy1
      go_wp2_with fail
      go_region_with (fail)
      all_goals (try go_wp2_with fail)
      all_goals
        go_roundw
        case rel =>
          refine ⟨k + 1, by omega, by go_num, ?_, (H2.out.setOther _ (by simp)).drew, (H3.out.setOther _ (by simp)).drew, (HB.out.setCell (by simp) _).drew⟩
          rw [HS.out]
          have h := (H1.out.set k ((x + y) % 4294967296)).drew
          rw [show (((x + y) % 4294967296 : Nat) : Int) = ((x : Int) + y) % 4294967296 by omega] at h
          exact h
        case measure => simp [Go.RowKit.intOf]; omega
    · have hz : ¬ (k : Int) < 8 := by omega
      have e8 : k = 8 := by omega
      subst e8
      have e8 : (plusL xs ys 8).length = 8 := by rw [plusL_len, HX.out]
      have HE8 := Lib.hid e8
      clear e8
      go_wp2_with (first | (refine wpList_load_row rfl 81 _ rfl _ rfl 81 _ (0, 0) _ H1.out Tryz.underlying81 rfl (by rw [cellsU_size, HE8.out]; kernel_rfl) ?_) | (refine wpList_store_row rfl 81 _ _ rfl _ _ rfl rfl 81 _ H3.out (by rw [cellsU_size, HE8.out]; kernel_rfl) (by rw [cellsU_size, cellsU_size, HE8.out]; rfl) (cellsU_one _) ?_))
      refine bodyPost_ret (v := .agg (cellsU (plusL xs ys 8))) ?_ rfl ⟨rfl, below_setRow HB.out (by omega) _⟩
      exact results_cell_row rfl _ _ (w.heap.size + 2) 81 (cellsU (plusL xs ys 8)) (0, 0) _ rfl (H3.out.setRow (plusL xs ys 8)) Tryz.underlying81 rfl (by rw [cellsU_size, HE8.out]; kernel_rfl)
end HQ
end Go.Proofs.YtfkaackhikbbkaaGreatDoor
end

section
/- Layer 4: the contract of the program's schedule: a block's sixteen words, and those drawn out of them. -/
namespace Go.Proofs.YtfkaackhikbbkaaGreatDoor
open Go.RowKit Go.Lib
namespace HQ
open HP HS HR

theorem zero64 : #[Value.int .u32 0, Value.int .u32 0, Value.int .u32 0, Value.int .u32 0, Value.int .u32 0, Value.int .u32 0, Value.int .u32 0, Value.int .u32 0, Value.int .u32 0, Value.int .u32 0, Value.int .u32 0, Value.int .u32 0, Value.int .u32 0, Value.int .u32 0, Value.int .u32 0, Value.int .u32 0, Value.int .u32 0, Value.int .u32 0, Value.int .u32 0, Value.int .u32 0, Value.int .u32 0, Value.int .u32 0, Value.int .u32 0, Value.int .u32 0, Value.int .u32 0, Value.int .u32 0, Value.int .u32 0, Value.int .u32 0, Value.int .u32 0, Value.int .u32 0, Value.int .u32 0, Value.int .u32 0, Value.int .u32 0, Value.int .u32 0, Value.int .u32 0, Value.int .u32 0, Value.int .u32 0, Value.int .u32 0, Value.int .u32 0, Value.int .u32 0, Value.int .u32 0, Value.int .u32 0, Value.int .u32 0, Value.int .u32 0, Value.int .u32 0, Value.int .u32 0, Value.int .u32 0, Value.int .u32 0, Value.int .u32 0, Value.int .u32 0, Value.int .u32 0, Value.int .u32 0, Value.int .u32 0, Value.int .u32 0, Value.int .u32 0, Value.int .u32 0, Value.int .u32 0, Value.int .u32 0, Value.int .u32 0, Value.int .u32 0, Value.int .u32 0, Value.int .u32 0, Value.int .u32 0, Value.int .u32 0] = cellsU (List.replicate 64 0) := by simp [cellsU, List.replicate]
/-- So many words, and noughts behind them up to 64. -/
def filled (W : List Nat) : List Nat := W ++ List.replicate (64 - W.length) 0
theorem filled_nil : filled [] = List.replicate 64 0 := rfl
theorem filled_len {W : List Nat} (h : W.length ≤ 64) : (filled W).length = 64 := by
  unfold filled
  rw [List.length_append, List.length_replicate]
  omega
theorem filled_at {W : List Nat} {i x : Nat} (h : W[i]? = some x) : (filled W)[i]? = some x := by
  unfold filled
  rw [List.getElem?_append_left]
  · exact h
  · exact (List.getElem?_eq_some_iff.1 h).1
theorem filled_set {W : List Nat} (h : W.length < 64) (x : Nat) : (filled W).set W.length x = filled (W ++ [x]) := by
  unfold filled
  rw [List.set_append_right _ _ (Nat.le_refl _), Nat.sub_self, List.length_append, List.length_singleton, List.append_assoc]
  rw [show 64 - W.length = (64 - (W.length + 1)) + 1 by omega, List.replicate_succ, List.set_cons_zero]
  rfl
theorem filled_full {W : List Nat} (h : W.length = 64) : filled W = W := by
  unfold filled
  rw [h]
  exact List.append_nil W
theorem filled_get {W : List Nat} {i : Nat} (h : W.length ≤ i) (h2 : i < 64) : (filled W)[i]? = some 0 := by
  unfold filled
  rw [List.getElem?_append_right h, List.getElem?_replicate, if_pos (by omega)]
theorem idx_byte (p : ByteArray) (i : Nat) (h : i < p.size) (z : Int) (hz : z = i) :
    ∃ x : Nat, (p.data.toList.getD i 0).toNat = x ∧ (x : Int) < 256 ∧ ∀ W, (Instr.index 9 (.string p) (.int .i64 z)).run Tryz.prog W = .ok (.int .u8 (x : Nat)) W := by
  subst hz
  refine ⟨_, rfl, ?_, fun W => ?_⟩
  · have := (p.data.toList.getD i 0).toNat_lt
    omega
  · have h0 : 0 ≤ (i : Int) ∧ (i : Int) < (p.size : Int) := by omega
    rw [run_index_string W 9 p .i64 (i : Int) Tryz.underlying9, dif_pos h0]
    have e := Lib.data_getElem? p i h
    rw [List.getD_eq_getElem?_getD, e]
    rfl
theorem or_add (a b i : Nat) (hb : b < 2 ^ i) : 2 ^ i * a ||| b = 2 ^ i * a + b := (Nat.two_pow_add_eq_or_of_lt hb a).symm
theorem or4 (a b c d : Nat) (ha : (a : Int) < 256) (hb : (b : Int) < 256) (hc : (c : Int) < 256) (hd : (d : Int) < 256) :
    bits .or .u32 (bits .or .u32 (bits .or .u32 ((a : Int) * 16777216) ((b : Int) * 65536)) ((c : Int) * 256)) (d : Int) = ((a * 16777216 + b * 65536 + c * 256 + d : Nat) : Int) := by
  have e1 : bits .or .u32 ((a : Int) * 16777216) ((b : Int) * 65536) = ((a * 16777216 + b * 65536 : Nat) : Int) := by
    rw [show (a : Int) * 16777216 = ((a * 16777216 : Nat) : Int) by omega, show (b : Int) * 65536 = ((b * 65536 : Nat) : Int) by omega, or_u32 _ _ (by omega) (by omega)]
    have h := or_add a (b * 65536) 24 (by omega)
    rw [show a * 16777216 = 2 ^ 24 * a by omega, h]
  have e2 : bits .or .u32 ((a * 16777216 + b * 65536 : Nat) : Int) ((c : Int) * 256) = ((a * 16777216 + b * 65536 + c * 256 : Nat) : Int) := by
    rw [show (c : Int) * 256 = ((c * 256 : Nat) : Int) by omega, or_u32 _ _ (by omega) (by omega)]
    have h := or_add (a * 256 + b) (c * 256) 16 (by omega)
    rw [show a * 16777216 + b * 65536 = 2 ^ 16 * (a * 256 + b) by omega, h]
  rw [e1, e2, or_u32 _ _ (by omega) (by omega)]
  have h := or_add (a * 65536 + b * 256 + c) d 8 (by omega)
  rw [show a * 16777216 + b * 65536 + c * 256 = 2 ^ 8 * (a * 65536 + b * 256 + c) by omega, h]
theorem words16_len (l : List UInt8) : (words16 l).length = 16 := by simp [words16]
theorem words16_take (l : List UInt8) (k : Nat) (h : k < 16) : (words16 l).take (k + 1) = (words16 l).take k ++ [wordBE l k] := by
  rw [List.take_add_one]
  congr 1
  unfold words16
  rw [List.getElem?_map, List.getElem?_range h]
  rfl
/-- The next word. -/
def nextW (w : List Nat) : Nat := (w.getD (w.length - 16) 0 + w.getD (w.length - 7) 0 + ls0 (w.getD (w.length - 15) 0) + ls1 (w.getD (w.length - 2) 0)) % 4294967296
theorem sched_end : ∀ (n : Nat) (w : List Nat), schedGo (n + 1) w = schedGo n w ++ [nextW (schedGo n w)]
  | 0, _ => rfl
  | n + 1, w => by
    show schedGo (n + 1) (w ++ [nextW w]) = schedGo n (w ++ [nextW w]) ++ _
    rw [sched_end n]
    rfl
theorem sched_len : ∀ (n : Nat) (w : List Nat), (schedGo n w).length = w.length + n
  | 0, _ => rfl
  | n + 1, w => by
    rw [sched_end, List.length_append, sched_len n w]
    rfl
theorem sched_lt : ∀ (n : Nat) (w : List Nat), (∀ x ∈ w, x < 4294967296) → ∀ x ∈ schedGo n w, x < 4294967296
  | 0, _, h => h
  | n + 1, w, h => by
    rw [sched_end]
    intro x hx
    rcases List.mem_append.1 hx with hx | hx
    · exact sched_lt n w h x hx
    · rw [List.mem_singleton] at hx
      subst hx
      exact Nat.mod_lt _ (by decide)
theorem wordBE_lt (l : List UInt8) (i : Nat) : wordBE l i < 4294967296 := by
  unfold wordBE
  have h0 := (l.getD (4 * i) 0).toNat_lt
  have h1 := (l.getD (4 * i + 1) 0).toNat_lt
  have h2 := (l.getD (4 * i + 2) 0).toNat_lt
  have h3 := (l.getD (4 * i + 3) 0).toNat_lt
  omega
theorem words16_lt (l : List UInt8) : ∀ x ∈ words16 l, x < 4294967296 := by
  intro x hx
  obtain ⟨i, _, rfl⟩ := List.mem_map.1 hx
  exact wordBE_lt l i
theorem get_some (l : List Nat) (i : Nat) (h : i < l.length) : l[i]? = some (l.getD i 0) := by
  rw [List.getD_eq_getElem?_getD, List.getElem?_eq_getElem h]
  rfl
theorem near_xor (y : Nat) (hy : y < 4294967296) : ∃ n : Nat, ls1 y = n ∧ (n : Int) < 4294967296 ∧ bits .xor .u32 ((rotr y 17 : Nat) : Int) ((rotr y 19 : Nat) : Int) = ((rotr y 17 ^^^ rotr y 19 : Nat) : Int) ∧ bits .xor .u32 ((rotr y 17 ^^^ rotr y 19 : Nat) : Int) ((y : Int) / 1024) = n := by
  have a := rotr_lt y 17 hy
  have b := rotr_lt y 19 hy
  have ab := Nat.xor_lt_two_pow (n := 32) a b
  have h := Nat.xor_lt_two_pow (n := 32) ab (show y / 1024 < 2 ^ 32 by omega)
  refine ⟨_, rfl, ?_, xor_u32 _ _ a b, ?_⟩
  · unfold ls1
    omega
  · rw [show (y : Int) / 1024 = ((y / 1024 : Nat) : Int) by omega, xor_u32 _ _ ab (by omega)]
    rfl
theorem far_xor (y : Nat) (hy : y < 4294967296) : ∃ n : Nat, ls0 y = n ∧ (n : Int) < 4294967296 ∧ bits .xor .u32 ((rotr y 7 : Nat) : Int) ((rotr y 18 : Nat) : Int) = ((rotr y 7 ^^^ rotr y 18 : Nat) : Int) ∧ bits .xor .u32 ((rotr y 7 ^^^ rotr y 18 : Nat) : Int) ((y : Int) / 8) = n := by
  have a := rotr_lt y 7 hy
  have b := rotr_lt y 18 hy
  have ab := Nat.xor_lt_two_pow (n := 32) a b
  have h := Nat.xor_lt_two_pow (n := 32) ab (show y / 8 < 2 ^ 32 by omega)
  refine ⟨_, rfl, ?_, xor_u32 _ _ a b, ?_⟩
  · unfold ls0
    omega
  · rw [show (y : Int) / 8 = ((y / 8 : Nat) : Int) by omega, xor_u32 _ _ ab (by omega)]
    rfl
set_option maxRecDepth 100000 in
set_option maxHeartbeats 1600000 in
theorem sched_any (p : ByteArray) (w : World) (hp : p.size = 64) :
    Calls Tryz.prog 118 #[.string p] w fun e w' => e = .returned (.agg (cellsU (schedGo 48 (words16 p.data.toList)))) ∧ Below w.heap.size w w' := by
  have HP := Lib.hid hp
  go_enter Tryz.func118, Tryz.ntmps118
  go_wp2
  rw [zero64]
  go_loopw [4, 5, 9] (fun _ _ s9 wr => ∃ k : Nat, k ≤ 16 ∧ s9 = .int .i64 k ∧ Row wr (w.heap.size + 1) (filled ((words16 p.data.toList).take k)) 141 ∧ Row wr w.heap.size (List.replicate 64 0) 141 ∧ Below w.heap.size w wr) (fun _ _ s9 _ => 16 - (Go.RowKit.intOf s9).toNat)
  case atStart => exact ⟨0, Nat.zero_le _, rfl, Row.newAt _ _ _ (by simp), (Row.new w _ _).alloc _, ((Below.refl _ _).alloc (Nat.le_refl _) _).alloc (by simp) _⟩
  case round =>
    obtain ⟨k, hk, rfl, h1, h2, hb⟩ := hrel
    have H1 := Lib.hid h1
    have H2 := Lib.hid h2
    have HB := Lib.hid hb
    clear h1 h2 hb
    by_cases hlt : k < 16
    · have hz : (k : Int) < 16 := by omega
      have c1 := H1.out.cell (filled_get (W := (words16 p.data.toList).take k) (i := k) (by rw [List.length_take]; omega) (by omega))
      have f1 := H1.out.frozen k
      have b0 : 4 * k < p.size := by omega
      have b1 : 4 * k + 1 < p.size := by omega
      have b2 : 4 * k + 2 < p.size := by omega
      have b3 : 4 * k + 3 < p.size := by omega
      obtain ⟨x0, e0, l0, i0⟩ := idx_byte p (4 * k) b0 (4 * (k : Int)) (by omega)
      obtain ⟨x1, e1, l1, i1⟩ := idx_byte p (4 * k + 1) b1 (4 * (k : Int) + 1) (by omega)
      obtain ⟨x2, e2, l2, i2⟩ := idx_byte p (4 * k + 2) b2 (4 * (k : Int) + 2) (by omega)
      obtain ⟨x3, e3, l3, i3⟩ := idx_byte p (4 * k + 3) b3 (4 * (k : Int) + 3) (by omega)
      have HE := Lib.hid (And.intro e0 (And.intro e1 (And.intro e2 e3)))
      clear b0 b1 b2 b3 e0 e1 e2 e3 hp
      go_wp2_with fail
      go_region
      all_goals (try go_wp2_with fail)
      all_goals
        go_roundw
        case rel =>
          refine ⟨k + 1, by omega, by go_num, ?_, (H2.out.setOther _ (by simp)).drew, (HB.out.setCell (by simp) _).drew⟩
          have hl : ((words16 p.data.toList).take k).length = k := by rw [List.length_take, words16_len]; omega
          have h := (H1.out.set k (wordBE p.data.toList k)).drew
          have hs := filled_set (W := (words16 p.data.toList).take k) (by omega) (wordBE p.data.toList k)
          rw [hl] at hs
          rw [hs, ← words16_take _ _ hlt] at h
          have e : wordBE p.data.toList k = x0 * 16777216 + x1 * 65536 + x2 * 256 + x3 := by
            obtain ⟨q0, q1, q2, q3⟩ := HE.out
            unfold wordBE
            rw [q0, q1, q2, q3]
          rw [e, ← or4 x0 x1 x2 x3 l0 l1 l2 l3] at h
          exact h
        case measure => simp [Go.RowKit.intOf]; omega
    · have hz : ¬ (k : Int) < 16 := by omega
      have e16 : k = 16 := by omega
      subst e16
      have HL : Hid (∀ x ∈ words16 p.data.toList, x < 4294967296) := Lib.hid (words16_lt _)
      have HW : Hid ((words16 p.data.toList).length = 16) := Lib.hid (words16_len _)
      have h1 := H1.out
      rw [List.take_of_length_le (by rw [HW.out]; exact Nat.le_refl _)] at h1
      obtain ⟨W0, hW0⟩ : ∃ W0, words16 p.data.toList = W0 := ⟨_, rfl⟩
      rw [hW0] at h1 HL HW
      have HW0 := Lib.hid hW0
      clear hW0
      have H1' := Lib.hid h1
      clear h1 H1
      go_wp2_with fail
      go_loopw [6, 7, 8] (fun s6 _ _ wr => ∃ i : Nat, 16 ≤ i ∧ i ≤ 64 ∧ s6 = .int .i64 i ∧ Row wr (w.heap.size + 1) (filled (schedGo (i - 16) W0)) 141 ∧ Row wr w.heap.size (List.replicate 64 0) 141 ∧ Below w.heap.size w wr) (fun s6 _ _ _ => 64 - (Go.RowKit.intOf s6).toNat)
      case atStart => exact ⟨16, by omega, by omega, rfl, H1'.out, H2.out, HB.out⟩
      case round =>
        clear H1' H2 HB
        obtain ⟨i, hi1, hi2, rfl, h1, h2, hb⟩ := hrel
        have H1 := Lib.hid h1
        have H2 := Lib.hid h2
        have HB := Lib.hid hb
        clear h1 h2 hb
        by_cases hlt : i < 64
        · have hz : (i : Int) < 64 := by omega
          have hlen : (schedGo (i - 16) W0).length = i := by rw [sched_len, HW.out]; omega
          have hall : ∀ j, j < i → (schedGo (i - 16) W0).getD j 0 < 4294967296 := fun j hj => sched_lt _ _ HL.out _ (List.mem_of_getElem? (get_some _ j (by omega)))
          obtain ⟨j2, hj2⟩ : ∃ j : Nat, (i : Int) - 2 = j := ⟨i - 2, by omega⟩
          obtain ⟨j7, hj7⟩ : ∃ j : Nat, (i : Int) - 7 = j := ⟨i - 7, by omega⟩
          obtain ⟨j15, hj15⟩ : ∃ j : Nat, (i : Int) - 15 = j := ⟨i - 15, by omega⟩
          obtain ⟨j16, hj16⟩ : ∃ j : Nat, (i : Int) - 16 = j := ⟨i - 16, by omega⟩
          obtain ⟨y2, hy2⟩ : ∃ y, (schedGo (i - 16) W0).getD j2 0 = y := ⟨_, rfl⟩
          obtain ⟨y7, hy7⟩ : ∃ y, (schedGo (i - 16) W0).getD j7 0 = y := ⟨_, rfl⟩
          obtain ⟨y15, hy15⟩ : ∃ y, (schedGo (i - 16) W0).getD j15 0 = y := ⟨_, rfl⟩
          obtain ⟨y16, hy16⟩ : ∃ y, (schedGo (i - 16) W0).getD j16 0 = y := ⟨_, rfl⟩
          have c2 := H1.out.cell (filled_at ((get_some _ j2 (by omega)).trans (congrArg some hy2)))
          have c7 := H1.out.cell (filled_at ((get_some _ j7 (by omega)).trans (congrArg some hy7)))
          have c15 := H1.out.cell (filled_at ((get_some _ j15 (by omega)).trans (congrArg some hy15)))
          have c16 := H1.out.cell (filled_at ((get_some _ j16 (by omega)).trans (congrArg some hy16)))
          have ci := H1.out.cell (filled_get (W := schedGo (i - 16) W0) (i := i) (by omega) hlt)
          have fi := H1.out.frozen i
          have l2 : y2 < 4294967296 := by rw [← hy2]; exact hall _ (by omega)
          have l7 : y7 < 4294967296 := by rw [← hy7]; exact hall _ (by omega)
          have l15 : y15 < 4294967296 := by rw [← hy15]; exact hall _ (by omega)
          have l16 : y16 < 4294967296 := by rw [← hy16]; exact hall _ (by omega)
          have r17 : ∀ W, Calls Tryz.prog 144 #[.int .u32 y2, .int .i64 (-17)] W fun e w' => e = .returned (.int .u32 (rotr y2 17 : Nat)) ∧ W = w' := fun W => rot_any y2 17 W l2 (by decide) (by decide)
          have r19 : ∀ W, Calls Tryz.prog 144 #[.int .u32 y2, .int .i64 (-19)] W fun e w' => e = .returned (.int .u32 (rotr y2 19 : Nat)) ∧ W = w' := fun W => rot_any y2 19 W l2 (by decide) (by decide)
          have r7 : ∀ W, Calls Tryz.prog 144 #[.int .u32 y15, .int .i64 (-7)] W fun e w' => e = .returned (.int .u32 (rotr y15 7 : Nat)) ∧ W = w' := fun W => rot_any y15 7 W l15 (by decide) (by decide)
          have r18 : ∀ W, Calls Tryz.prog 144 #[.int .u32 y15, .int .i64 (-18)] W fun e w' => e = .returned (.int .u32 (rotr y15 18 : Nat)) ∧ W = w' := fun W => rot_any y15 18 W l15 (by decide) (by decide)
          obtain ⟨n1, hn1, hn1l, x1, x1'⟩ := near_xor y2 l2
          obtain ⟨n0, hn0, hn0l, x0, x0'⟩ := far_xor y15 l15
          have l7z : (y7 : Int) < 4294967296 := by omega
          have l16z : (y16 : Int) < 4294967296 := by omega
          have HN : Hid (nextW (schedGo (i - 16) W0) = (y16 + y7 + n0 + n1) % 4294967296) := Lib.hid (by
            unfold nextW
            rw [hlen, show i - 16 = j16 by omega, show i - 7 = j7 by omega, show i - 15 = j15 by omega, show i - 2 = j2 by omega] at *
            rw [hy16, hy7, hy15, hy2, hn0, hn1])
          have HLen := Lib.hid hlen
          have HR17 := Lib.hid r17
          have HR19 := Lib.hid r19
          have HR7 := Lib.hid r7
          have HR18 := Lib.hid r18
          have l2z : (y2 : Int) < 4294967296 := by omega
          have l15z : (y15 : Int) < 4294967296 := by omega
          have q2 : (j2 : Int) < 64 := by omega
          have q7 : (j7 : Int) < 64 := by omega
          have q15 : (j15 : Int) < 64 := by omega
          have q16 : (j16 : Int) < 64 := by omega
          clear hlen hall hy2 hy7 hy15 hy16 l2 l7 l15 l16 hn1 hn0 r17 r19 r7 r18
          go_wp2_with fail
          go_region
          all_goals (go_wp2_with (go_at_call 144; (first | (with_reducible refine (HR17.out _).mono ?_) | (with_reducible refine (HR19.out _).mono ?_) | (with_reducible refine (HR7.out _).mono ?_) | (with_reducible refine (HR18.out _).mono ?_)); rintro e w' ⟨rfl, rfl⟩))
          all_goals go_region
          all_goals (try go_wp2_with fail)
          all_goals
            go_roundw
            case rel =>
              refine ⟨i + 1, by omega, by omega, by go_num, ?_, (H2.out.setOther _ (by simp)).drew.drew, ((HB.out.setCell (by simp) _).drew).drew⟩
              have h := (H1.out.set i ((y16 + y7 + n0 + n1) % 4294967296)).drew.drew
              have hs := filled_set (W := schedGo (i - 16) W0) (by rw [HLen.out]; exact hlt) ((y16 + y7 + n0 + n1) % 4294967296)
              rw [HLen.out] at hs
              rw [hs, ← HN.out, ← sched_end, HN.out, show i - 16 + 1 = i + 1 - 16 by omega, show (((y16 + y7 + n0 + n1) % 4294967296 : Nat) : Int) = ((n1 : Int) + y7 + n0 + y16) % 4294967296 by omega] at h
              exact h
            case measure => simp [Go.RowKit.intOf]; omega
        · have hz : ¬ (i : Int) < 64 := by omega
          have e64 : i = 64 := by omega
          subst e64
          have h1 := H1.out
          rw [filled_full (by rw [sched_len, HW.out])] at h1
          have H1' := Lib.hid h1
          have HLen : Hid ((schedGo 48 W0).length = 64) := Lib.hid (by rw [sched_len, HW.out])
          clear h1 H1
          go_wp2_with (first | (refine wpList_load_row rfl 141 _ rfl _ rfl 141 _ (0, 0) _ H1'.out Tryz.underlying141 rfl (by rw [cellsU_size, HLen.out]; kernel_rfl) ?_) | (refine wpList_store_row rfl 141 _ _ rfl _ _ rfl rfl 141 _ H2.out (by rw [cellsU_size, HLen.out]; kernel_rfl) (by rw [cellsU_size, cellsU_size, HLen.out]; rfl) (cellsU_one _) ?_))
          refine bodyPost_ret (v := .agg (cellsU (schedGo 48 W0))) ?_ rfl ⟨by rw [HW0.out], below_setRow HB.out (Nat.le_refl _) _⟩
          exact results_cell_row rfl _ _ w.heap.size 141 (cellsU (schedGo 48 W0)) (0, 0) _ rfl (H2.out.setRow (schedGo 48 W0)) Tryz.underlying141 rfl (by rw [cellsU_size, HLen.out]; kernel_rfl)
end HQ
end Go.Proofs.YtfkaackhikbbkaaGreatDoor
end

section
/- Layer 4: the contract of the program's behind: the state behind one block. -/
namespace Go.Proofs.YtfkaackhikbbkaaGreatDoor
open Go.RowKit Go.Lib
namespace HQ
open HP HS HR

def stL (v : St) : List Nat := match v with | (a, b, c, d, e, f, g, h) => [a, b, c, d, e, f, g, h]
theorem stL_len (v : St) : (stL v).length = 8 := by
  obtain ⟨a, b, c, d, e, f, g, h⟩ := v
  rfl
theorem not_u32 (e : Nat) (he : e < 4294967296) : bits .xor .u32 IntKind.u32.max (e : Int) = ((4294967295 - e : Nat) : Int) := by
  have h : (4294967295 : Nat) ^^^ e = 4294967295 - e := by
    apply Nat.eq_of_testBit_eq
    intro i
    rw [Nat.testBit_xor, show (4294967295 : Nat) - e = 2 ^ 32 - (e + 1) by omega, Nat.testBit_two_pow_sub_succ (by omega), show (4294967295 : Nat) = 2 ^ 32 - 1 by decide, Nat.testBit_two_pow_sub_one]
    by_cases hi : i < 32
    · simp [hi]
    · have : e.testBit i = false := Nat.testBit_lt_two_pow (Nat.lt_of_lt_of_le (show e < 2 ^ 32 by omega) (Nat.pow_le_pow_right (by decide) (by omega)))
      simp [hi, this]
  have h2 := xor_u32 4294967295 e (by decide) he
  rw [h] at h2
  exact h2
theorem rounds_snoc : ∀ (ks ws : List Nat) (v : St) (k w : Nat), ks.length = ws.length → rounds v (ks ++ [k]) (ws ++ [w]) = roundStep (rounds v ks ws) k w
  | [], [], _, _, _, _ => rfl
  | [], _ :: _, _, _, _, h => by simp at h
  | _ :: _, [], _, _, _, h => by simp at h
  | x :: ks, y :: ws, v, k, w, h => by
    rw [List.length_cons, List.length_cons] at h
    exact rounds_snoc ks ws (roundStep v x y) k w (by omega)
theorem round_lt : ∀ x ∈ roundK, x < 4294967296 := by decide +kernel
theorem bs1_lt {e : Nat} (h : e < 4294967296) : bs1 e < 4294967296 := Nat.xor_lt_two_pow (n := 32) (Nat.xor_lt_two_pow (n := 32) (rotr_lt e 6 h) (rotr_lt e 11 h)) (rotr_lt e 25 h)
theorem bs0_lt {a : Nat} (h : a < 4294967296) : bs0 a < 4294967296 := Nat.xor_lt_two_pow (n := 32) (Nat.xor_lt_two_pow (n := 32) (rotr_lt a 2 h) (rotr_lt a 13 h)) (rotr_lt a 22 h)
theorem and_lt32 {a : Nat} (b : Nat) (h : a < 4294967296) : a &&& b < 4294967296 := Nat.lt_of_le_of_lt Nat.and_le_left h
theorem ch_ops {e f g : Nat} (he : e < 4294967296) (hf : f < 4294967296) (hg : g < 4294967296) :
    ∃ n : Nat, n = chN e f g ∧ (n : Int) < 4294967296 ∧ bits .and .u32 (e : Int) (f : Int) = ((e &&& f : Nat) : Int) ∧ bits .xor .u32 IntKind.u32.max (e : Int) = ((4294967295 - e : Nat) : Int) ∧ bits .and .u32 ((4294967295 - e : Nat) : Int) (g : Int) = (((4294967295 - e) &&& g : Nat) : Int) ∧ bits .xor .u32 ((e &&& f : Nat) : Int) (((4294967295 - e) &&& g : Nat) : Int) = n := by
  have h1 := and_lt32 f he
  have h2 := and_lt32 g (show 4294967295 - e < 4294967296 by omega)
  have h3 := Nat.xor_lt_two_pow (n := 32) h1 h2
  refine ⟨_, rfl, ?_, and_u32 _ _ he hf, not_u32 e he, and_u32 _ _ (by omega) hg, xor_u32 _ _ h1 h2⟩
  unfold chN
  omega
theorem maj_ops {a b c : Nat} (ha : a < 4294967296) (hb : b < 4294967296) (hc : c < 4294967296) :
    ∃ n : Nat, n = majN a b c ∧ (n : Int) < 4294967296 ∧ bits .and .u32 (a : Int) (b : Int) = ((a &&& b : Nat) : Int) ∧ bits .and .u32 (a : Int) (c : Int) = ((a &&& c : Nat) : Int) ∧ bits .and .u32 (b : Int) (c : Int) = ((b &&& c : Nat) : Int) ∧ bits .xor .u32 ((a &&& b : Nat) : Int) ((a &&& c : Nat) : Int) = (((a &&& b) ^^^ (a &&& c) : Nat) : Int) ∧ bits .xor .u32 (((a &&& b) ^^^ (a &&& c) : Nat) : Int) ((b &&& c : Nat) : Int) = n := by
  have h1 := and_lt32 b ha
  have h2 := and_lt32 c ha
  have h3 := and_lt32 c hb
  have h12 := Nat.xor_lt_two_pow (n := 32) h1 h2
  have h4 := Nat.xor_lt_two_pow (n := 32) h12 h3
  refine ⟨_, rfl, ?_, and_u32 _ _ ha hb, and_u32 _ _ ha hc, and_u32 _ _ hb hc, xor_u32 _ _ h1 h2, xor_u32 _ _ h12 h3⟩
  unfold majN
  omega
/-- All eight are words. -/
def Words (v : St) : Prop := ∀ x ∈ stL v, x < 4294967296
set_option maxRecDepth 100000 in
set_option maxHeartbeats 1600000 in
theorem behind_any (a b c d e f g h : Nat) (p : ByteArray) (w : World) (he : Env w) (hp : p.size = 64) (hl : ∀ x ∈ [a, b, c, d, e, f, g, h], x < 4294967296) :
    Calls Tryz.prog 88 #[.agg (cellsU [a, b, c, d, e, f, g, h]), .string p] w fun r w' => r = .returned (.agg (cellsU (stL (blockN (a, b, c, d, e, f, g, h) p.data.toList)))) ∧ Below w.heap.size w w' := by
  have cS := Lib.hid (fun W => sched_any p W hp)
  go_enter Tryz.func88, Tryz.ntmps88
  go_wp2_with fail
  rw [zero8]
  have HB0 : Hid (Below w.heap.size w ((w.alloc (Obj.cells (cellsU [a, b, c, d, e, f, g, h]) 81)).alloc (Obj.cells (cellsU (List.replicate 8 0)) 81))) := Lib.hid (((Below.refl _ _).alloc (Nat.le_refl _) _).alloc (by simp) _)
  refine (cS.out _).mono ?_
  rintro r w2 ⟨rfl, hb⟩
  have R1 := Lib.hid (((Row.new w [a, b, c, d, e, f, g, h] 81).alloc (Obj.cells (cellsU (List.replicate 8 0)) 81)).below hb (by simp; omega))
  have R2 := Lib.hid ((Row.newAt (w.alloc (Obj.cells (cellsU [a, b, c, d, e, f, g, h]) 81)) (List.replicate 8 0) 81 (g := w.heap.size + 1) (by simp)).below hb (by simp))
  have HB := Lib.hid (Below.trans HB0.out (hb.mono HB0.out.size))
  have hsz : w.heap.size + 2 ≤ w2.heap.size := by have := hb.size; simp at this; omega
  have HSz := Lib.hid hsz
  clear hb HB0 hsz
  obtain ⟨L, hL⟩ : ∃ L, schedGo 48 (words16 p.data.toList) = L := ⟨_, rfl⟩
  have hLl : L.length = 64 := by rw [← hL, sched_len, words16_len]
  have hLt : ∀ x ∈ L, x < 4294967296 := by rw [← hL]; exact sched_lt _ _ (words16_lt _)
  rw [hL]
  have HL := Lib.hid hL
  have HLl := Lib.hid hLl
  have HLt := Lib.hid hLt
  clear hL hLl hLt
  have R1' := Lib.hid (R1.out.alloc (Obj.cells (cellsU L) 141))
  have R2' := Lib.hid (R2.out.alloc (Obj.cells (cellsU L) 141))
  have R3' := Lib.hid (Row.new w2 L 141)
  have HB' := Lib.hid (HB.out.alloc (by have := HSz.out; omega) (Obj.cells (cellsU L) 141))
  go_wp2_with (refine wpList_store_row rfl 141 _ _ rfl w2.heap.size (cellsU L) rfl rfl 141 _ (heap_alloc_new w2 _) (by rw [cellsU_size, HLl.out]; kernel_rfl) (by rw [cellsU_size, HLl.out]; rfl) (cellsU_one _) ?_; rw [World.setRow_alloc_new])
  obtain ⟨W1, hW1⟩ : ∃ W1, w2.alloc (Obj.cells (cellsU L) 141) = W1 := ⟨_, rfl⟩
  obtain ⟨G, hG⟩ : ∃ G, w2.heap.size = G := ⟨_, rfl⟩
  rw [hW1] at R1' R2' R3' HB'
  rw [hG] at R3' HSz
  rw [hW1, hG]
  clear hW1 hG R1 R2 HB
  have c0 : W1.cell? ⟨w.heap.size, 0, none⟩ = some (.int .u32 (a : Nat)) := R1'.out.cell rfl
  have c1 : W1.cell? ⟨w.heap.size, 1, none⟩ = some (.int .u32 (b : Nat)) := R1'.out.cell rfl
  have c2 : W1.cell? ⟨w.heap.size, 2, none⟩ = some (.int .u32 (c : Nat)) := R1'.out.cell rfl
  have c3 : W1.cell? ⟨w.heap.size, 3, none⟩ = some (.int .u32 (d : Nat)) := R1'.out.cell rfl
  have c4 : W1.cell? ⟨w.heap.size, 4, none⟩ = some (.int .u32 (e : Nat)) := R1'.out.cell rfl
  have c5 : W1.cell? ⟨w.heap.size, 5, none⟩ = some (.int .u32 (f : Nat)) := R1'.out.cell rfl
  have c6 : W1.cell? ⟨w.heap.size, 6, none⟩ = some (.int .u32 (g : Nat)) := R1'.out.cell rfl
  have c7 : W1.cell? ⟨w.heap.size, 7, none⟩ = some (.int .u32 (h : Nat)) := R1'.out.cell rfl
  have HE := Lib.hid (he.below HB'.out)
  have HEnv := Lib.hid he
  have Hl := Lib.hid hl
  clear he hl
  dsimp only [Act.put]
  go_region_held3 (fun w' => w'.cell? ⟨w.heap.size, 0, none⟩ = some (.int .u32 (a : Nat)) ∧ w'.cell? ⟨w.heap.size, 1, none⟩ = some (.int .u32 (b : Nat)) ∧ w'.cell? ⟨w.heap.size, 2, none⟩ = some (.int .u32 (c : Nat)) ∧ w'.cell? ⟨w.heap.size, 3, none⟩ = some (.int .u32 (d : Nat)) ∧ w'.cell? ⟨w.heap.size, 4, none⟩ = some (.int .u32 (e : Nat)) ∧ w'.cell? ⟨w.heap.size, 5, none⟩ = some (.int .u32 (f : Nat)) ∧ w'.cell? ⟨w.heap.size, 6, none⟩ = some (.int .u32 (g : Nat)) ∧ w'.cell? ⟨w.heap.size, 7, none⟩ = some (.int .u32 (h : Nat))) (exact ⟨c0, c1, c2, c3, c4, c5, c6, c7⟩) (fail)
  have c1' := Lib.hid R1'.out.drew
  have c2' := Lib.hid R2'.out.drew
  have c3' := Lib.hid R3'.out.drew
  have hb' := Lib.hid HB'.out.drew
  clear c0 c1 c2 c3 c4 c5 c6 c7 R1' R2' R3' HB' HE
  go_wp2_with fail
  go_loopw [6, 7, 8, 9, 10, 11, 12, 13, 14, 15, 16, 35] (fun s6 s7 s8 s9 s10 s11 s12 s13 _ _ _ s35 wr => ∃ k a' b' c' d' e' f' g' h' : Nat, k ≤ 64 ∧ s35 = .int .i64 k ∧ s6 = .int .u32 a' ∧ s7 = .int .u32 b' ∧ s8 = .int .u32 c' ∧ s9 = .int .u32 d' ∧ s10 = .int .u32 e' ∧ s11 = .int .u32 f' ∧ s12 = .int .u32 g' ∧ s13 = .int .u32 h' ∧ rounds (a, b, c, d, e, f, g, h) (roundK.take k) (L.take k) = (a', b', c', d', e', f', g', h') ∧ Words (a', b', c', d', e', f', g', h') ∧ Row wr w.heap.size [a, b, c, d, e, f, g, h] 81 ∧ Row wr (w.heap.size + 1) (List.replicate 8 0) 81 ∧ Row wr G L 141 ∧ Below w.heap.size w wr) (fun _ _ _ _ _ _ _ _ _ _ _ s35 _ => 64 - (Go.RowKit.intOf s35).toNat)
  case atStart => exact ⟨0, a, b, c, d, e, f, g, h, Nat.zero_le _, rfl, rfl, rfl, rfl, rfl, rfl, rfl, rfl, rfl, rfl, Hl.out, c1'.out, c2'.out, c3'.out, hb'.out⟩
  case round =>
    clear c1' c2' c3' hb'
    obtain ⟨k, a', b', c', d', e', f', g', h', hk, rfl, rfl, rfl, rfl, rfl, rfl, rfl, rfl, rfl, hr, hw, h1, h2, h3, hb⟩ := hrel
    have H1 := Lib.hid h1
    have HR := Lib.hid hr
    have H2 := Lib.hid h2
    have H3 := Lib.hid h3
    have HB := Lib.hid hb
    have HWd := Lib.hid hw
    clear hr h1 h2 h3 hb hw
    by_cases hlt : k < 64
    · have hz : (k : Int) < 64 := by omega
      have la : a' < 4294967296 := HWd.out _ (by simp [stL])
      have lb : b' < 4294967296 := HWd.out _ (by simp [stL])
      have lc : c' < 4294967296 := HWd.out _ (by simp [stL])
      have ld : d' < 4294967296 := HWd.out _ (by simp [stL])
      have le : e' < 4294967296 := HWd.out _ (by simp [stL])
      have lf : f' < 4294967296 := HWd.out _ (by simp [stL])
      have lg : g' < 4294967296 := HWd.out _ (by simp [stL])
      have lh : h' < 4294967296 := HWd.out _ (by simp [stL])
      obtain ⟨x, hx⟩ : ∃ x, L[k]? = some x := ⟨L[k]'(by rw [HLl.out]; exact hlt), List.getElem?_eq_getElem _⟩
      have lx : (x : Int) < 4294967296 := by have := HLt.out x (List.mem_of_getElem? hx); omega
      obtain ⟨q, hq⟩ : ∃ q, roundK.getD k 0 = q := ⟨_, rfl⟩
      have hqs : roundK[k]? = some q := by rw [← hq]; exact get_some _ _ hlt
      have lq : (q : Int) < 4294967296 := by have := round_lt q (List.mem_of_getElem? hqs); omega
      have cx := H3.out.cell hx
      have cq := (HEnv.out.below HB.out).rnd k hlt
      rw [hq] at cq
      obtain ⟨m1, hm1, lm1⟩ : ∃ m, m = bs1 e' ∧ m < 4294967296 := ⟨_, rfl, bs1_lt le⟩
      obtain ⟨m0, hm0, lm0⟩ : ∃ m, m = bs0 a' ∧ m < 4294967296 := ⟨_, rfl, bs0_lt la⟩
      have cM1 : ∀ W, Calls Tryz.prog 119 #[.int .u32 e', .int .i64 6, .int .i64 11, .int .i64 25] W fun r w' => r = .returned (.int .u32 (m1 : Nat)) ∧ W = w' := fun W => by rw [hm1]; exact mix_any e' 6 11 25 W le (by decide) (by decide) (by decide)
      have cM0 : ∀ W, Calls Tryz.prog 119 #[.int .u32 a', .int .i64 2, .int .i64 13, .int .i64 22] W fun r w' => r = .returned (.int .u32 (m0 : Nat)) ∧ W = w' := fun W => by rw [hm0]; exact mix_any a' 2 13 22 W la (by decide) (by decide) (by decide)
      have HM1 := Lib.hid cM1
      have HM0 := Lib.hid cM0
      obtain ⟨ch, hch, lch, x1, x2, x3, x4⟩ := ch_ops le lf lg
      obtain ⟨mj, hmj, lmj, y1, y2, y3, y4, y5⟩ := maj_ops la lb lc
      have HS : Hid (roundStep (a', b', c', d', e', f', g', h') q x = (((h' + m1 + ch + q + x) % 4294967296 + (m0 + mj) % 4294967296) % 4294967296, a', b', c', (d' + (h' + m1 + ch + q + x) % 4294967296) % 4294967296, e', f', g')) := Lib.hid (by rw [hm1, hm0, hch, hmj]; rfl)
      have HN : Hid (rounds (a, b, c, d, e, f, g, h) (roundK.take (k + 1)) (L.take (k + 1)) = roundStep (a', b', c', d', e', f', g', h') q x) := Lib.hid (by
        rw [List.take_add_one, List.take_add_one, hqs, hx, ← HR.out]
        exact rounds_snoc _ _ _ _ _ (by rw [List.length_take, List.length_take, HLl.out]; rfl))
      have lm1z : (m1 : Int) < 4294967296 := by omega
      have lm0z : (m0 : Int) < 4294967296 := by omega
      have laz : (a' : Int) < 4294967296 := by omega
      have lbz : (b' : Int) < 4294967296 := by omega
      have lcz : (c' : Int) < 4294967296 := by omega
      have ldz : (d' : Int) < 4294967296 := by omega
      have lez : (e' : Int) < 4294967296 := by omega
      have lfz : (f' : Int) < 4294967296 := by omega
      have lgz : (g' : Int) < 4294967296 := by omega
      have lhz : (h' : Int) < 4294967296 := by omega
      clear cM1 cM0 hm1 hm0 lm1 lm0 la lb lc ld le lf lg lh hch hmj hqs hq hx
      go_wp2_with fail
      go_quiet ((go_at_call 119; exact Calls.quiet_of_same ((HM1.out _).mono fun r w' h => ⟨h.1, h.2.symm⟩)))
      rename_i nq
      have H1n : Hid (Row (wr.drewN nq) w.heap.size [a, b, c, d, e, f, g, h] 81) := H1
      have H2n : Hid (Row (wr.drewN nq) (w.heap.size + 1) (List.replicate 8 0) 81) := H2
      have H3n : Hid (Row (wr.drewN nq) G L 141) := H3
      have HBn : Hid (Below w.heap.size w (wr.drewN nq)) := Lib.hid ⟨HB.out.os, HB.out.tape, HB.out.output, HB.out.size, HB.out.block⟩
      generalize wr.drewN nq = w3 at H1n H2n H3n HBn ⊢
      go_wp2_with (go_at_call 119; with_reducible refine (HM0.out _).mono ?_; rintro r w' ⟨rfl, rfl⟩)
      have eX : bits .xor .u32 ((e' &&& f' : Nat) : Int) (bits .and .u32 (bits .xor .u32 (if IntKind.u32.signed = true then -1 else IntKind.u32.max) (e' : Int)) (g' : Int)) = ch := by
        rw [show (if IntKind.u32.signed = true then (-1 : Int) else IntKind.u32.max) = IntKind.u32.max from rfl, x2, x3, x4]
      go_roundw
      case rel =>
        rw [eX]
        refine ⟨k + 1, _, a', b', c', _, e', f', g', by omega, by go_num, by go_num, rfl, rfl, rfl, by go_num, rfl, rfl, rfl, HN.out.trans HS.out, ?_, H1n.out, H2n.out, H3n.out, HBn.out⟩
        intro y hy
        simp only [stL, List.mem_cons, List.not_mem_nil, or_false] at hy
        rcases hy with hy | hy | hy | hy | hy | hy | hy | hy <;> omega
      case measure => simp [Go.RowKit.intOf]; omega
    · have hz : ¬ (k : Int) < 64 := by omega
      have e64 : k = 64 := by omega
      subst e64
      have hr := HR.out
      rw [List.take_of_length_le (show roundK.length ≤ 64 from Nat.le_refl _), List.take_of_length_le (by rw [HLl.out]; exact Nat.le_refl _)] at hr
      have HF : Hid (stL (blockN (a, b, c, d, e, f, g, h) p.data.toList) = plusL [a, b, c, d, e, f, g, h] [a', b', c', d', e', f', g', h'] 8) := Lib.hid (by
        unfold blockN
        rw [HL.out, hr]
        simp [plusL, addSt, stL, Nat.add_comm])
      have cP := Lib.hid (fun W => plus_any [a, b, c, d, e, f, g, h] [a', b', c', d', e', f', g', h'] W rfl rfl Hl.out HWd.out)
      clear hr
      go_wp2_with (first | (refine wpList_load_row rfl 81 _ rfl _ rfl 81 _ (0, 0) _ H1.out Tryz.underlying81 rfl (by kernel_rfl) ?_))
      refine (cP.out _).mono ?_
      rintro r w4 ⟨rfl, hb4⟩
      have H2f := Lib.hid (H2.out.below hb4 H2.out.lt)
      have HBf := Lib.hid (Below.trans HB.out (hb4.mono HB.out.size))
      clear hb4
      rw [← HF.out]
      obtain ⟨Z, hZ⟩ : ∃ Z, stL (blockN (a, b, c, d, e, f, g, h) p.data.toList) = Z := ⟨_, rfl⟩
      have hZl : Z.length = 8 := by rw [← hZ]; exact stL_len _
      have HZ := Lib.hid hZ
      have HZl := Lib.hid hZl
      rw [hZ]
      clear hZ hZl
      go_wp2_with (refine wpList_store_row rfl 81 _ _ rfl (w.heap.size + 1) (cellsU Z) rfl rfl 81 _ H2f.out (by rw [cellsU_size, HZl.out]; kernel_rfl) (by rw [cellsU_size, cellsU_size, HZl.out]; rfl) (cellsU_one _) ?_)
      refine bodyPost_ret (v := .agg (cellsU Z)) ?_ rfl ⟨by rw [HZ.out], below_setRow HBf.out (by omega) _⟩
      exact results_cell_row rfl _ _ (w.heap.size + 1) 81 (cellsU Z) (0, 0) _ rfl (H2f.out.setRow Z) Tryz.underlying81 rfl (by rw [cellsU_size, HZl.out]; kernel_rfl)
end HQ
end Go.Proofs.YtfkaackhikbbkaaGreatDoor
end

section
/- Layer 4: the contract of the program's after: the state behind so many blocks. -/
namespace Go.Proofs.YtfkaackhikbbkaaGreatDoor
open Go.RowKit Go.Lib
namespace HQ
open HP HS HR

theorem words_block (v : St) (l : List UInt8) : Words (blockN v l) := by
  obtain ⟨a, b, c, d, e, f, g, h⟩ := v
  intro x hx
  unfold blockN at hx
  generalize rounds (a, b, c, d, e, f, g, h) roundK (schedGo 48 (words16 l)) = u at hx
  obtain ⟨a', b', c', d', e', f', g', h'⟩ := u
  simp only [addSt, stL, List.mem_cons, List.not_mem_nil, or_false] at hx
  rcases hx with hx | hx | hx | hx | hx | hx | hx | hx <;> omega
theorem take_of2 (s : ByteArray) (k : Nat) : (s.extract 0 k).data.toList = s.data.toList.take k := by rw [Lib.extract_data]; simp
theorem drop_of2 (s : ByteArray) (k : Nat) : (s.extract k s.size).data.toList = s.data.toList.drop k := Lib.extract_to_end s k
theorem below_drew {B : Nat} {a w : World} (h : Below B a w) : Below B a w.drew := h.drew
theorem cells8 (a b c d e f g h : Nat) : cellsU [a, b, c, d, e, f, g, h] = #[.int .u32 a, .int .u32 b, .int .u32 c, .int .u32 d, .int .u32 e, .int .u32 f, .int .u32 g, .int .u32 h] := rfl
set_option maxRecDepth 100000 in
set_option maxHeartbeats 1600000 in
theorem after_any (v : St) (p : ByteArray) (w : World) (he : Env w) (hv : Words v) (hm : p.size % 64 = 0) (hs : p.size ≤ maxLen) :
    Calls Tryz.prog 53 #[.agg (cellsU (stL v)), .string p] w fun r w' => r = .returned (.agg (cellsU (stL (blocks (p.size / 64) v p.data.toList)))) ∧ Below w.heap.size w w' := by
  unfold maxLen at hs
  have HE := Lib.hid he
  have HV := Lib.hid hv
  obtain ⟨T, hT⟩ : ∃ T, blocks (p.size / 64) v p.data.toList = T := ⟨_, rfl⟩
  rw [hT]
  have HT := Lib.hid hT
  have HM := Lib.hid hm
  clear he hv hT hm
  go_enter Tryz.func53, Tryz.ntmps53
  go_wp2
  rw [zero8]
  go_loopw [1] (fun s1 wr => ∃ (q : ByteArray) (u : St), s1 = .string q ∧ q.size % 64 = 0 ∧ q.size ≤ 2 ^ 63 - 1 ∧ blocks (q.size / 64) u q.data.toList = T ∧ Words u ∧ Row wr w.heap.size (stL u) 81 ∧ Row wr (w.heap.size + 1) (List.replicate 8 0) 81 ∧ Below w.heap.size w wr) (fun s1 _ => match s1 with | .string q => q.size | _ => 0)
  case atStart => exact ⟨p, v, rfl, HM.out, hs, HT.out, HV.out, (Row.new w _ _).alloc _, Row.newAt _ _ _ (by simp), ((Below.refl _ _).alloc (Nat.le_refl _) _).alloc (by simp) _⟩
  case round =>
    obtain ⟨q, u, rfl, hqm, hql, hq, hu, h1, h2, hb⟩ := hrel
    have HQm := Lib.hid hqm
    have HQ := Lib.hid hq
    have HU := Lib.hid hu
    have H1 := Lib.hid h1
    have H2 := Lib.hid h2
    have HB := Lib.hid hb
    clear hqm hq hu h1 h2 hb
    by_cases hne : q.size = 0
    · have hqe : (q.toList == []) = true := by
        rw [Lib.toList_data]
        have := Lib.size_eq q
        have h0 : q.data.toList = [] := List.eq_nil_of_length_eq_zero (by omega)
        rw [h0]
        rfl
      have hT : T = u := by rw [← HQ.out, hne]; rfl
      have HTu := Lib.hid hT
      have hul := stL_len u
      obtain ⟨Z, hZ⟩ : ∃ Z, stL u = Z := ⟨_, rfl⟩
      rw [hZ] at hul
      have H1 := H1.out
      rw [hZ] at H1
      have H1' := Lib.hid H1
      have HZ := Lib.hid hZ
      have HZl := Lib.hid hul
      clear hT hul hZ H1 hne
      go_wp2_with (first | (refine wpList_load_row rfl 81 _ rfl _ rfl 81 _ (0, 0) _ H1'.out Tryz.underlying81 rfl (by rw [cellsU_size, HZl.out]; kernel_rfl) ?_) | (refine wpList_store_row rfl 81 _ _ rfl _ _ rfl rfl 81 _ H2.out (by rw [cellsU_size, HZl.out]; kernel_rfl) (by rw [cellsU_size, cellsU_size, HZl.out]; rfl) (cellsU_one _) ?_))
      refine bodyPost_ret (v := .agg (cellsU Z)) ?_ rfl ⟨by rw [HTu.out, HZ.out], below_setRow HB.out (by omega) _⟩
      exact results_cell_row rfl _ _ (w.heap.size + 1) 81 (cellsU Z) (0, 0) _ rfl (H2.out.setRow Z) Tryz.underlying81 rfl (by rw [cellsU_size, HZl.out]; kernel_rfl)
    · have h64 : 64 ≤ q.size := by have := HQm.out; omega
      have hsz : (q.extract 0 64).size = 64 := by rw [Lib.size_eq, take_of2, List.length_take, ← Lib.size_eq]; omega
      obtain ⟨a, b, c, d, e, f, g, h⟩ := u
      obtain ⟨u', hu'⟩ : ∃ u', blockN (a, b, c, d, e, f, g, h) (q.extract 0 64).data.toList = u' := ⟨_, rfl⟩
      obtain ⟨a', b', c', d', e', f', g', h'⟩ := u'
      have c0 : wr.cell? ⟨w.heap.size, 0, none⟩ = some (.int .u32 (a : Nat)) := H1.out.cell rfl
      have c1 : wr.cell? ⟨w.heap.size, 1, none⟩ = some (.int .u32 (b : Nat)) := H1.out.cell rfl
      have c2 : wr.cell? ⟨w.heap.size, 2, none⟩ = some (.int .u32 (c : Nat)) := H1.out.cell rfl
      have c3 : wr.cell? ⟨w.heap.size, 3, none⟩ = some (.int .u32 (d : Nat)) := H1.out.cell rfl
      have c4 : wr.cell? ⟨w.heap.size, 4, none⟩ = some (.int .u32 (e : Nat)) := H1.out.cell rfl
      have c5 : wr.cell? ⟨w.heap.size, 5, none⟩ = some (.int .u32 (f : Nat)) := H1.out.cell rfl
      have c6 : wr.cell? ⟨w.heap.size, 6, none⟩ = some (.int .u32 (g : Nat)) := H1.out.cell rfl
      have c7 : wr.cell? ⟨w.heap.size, 7, none⟩ = some (.int .u32 (h : Nat)) := H1.out.cell rfl

      have HEr := Lib.hid (HE.out.below HB.out)
      have cB : Calls Tryz.prog 88 #[.agg #[.int .u32 a, .int .u32 b, .int .u32 c, .int .u32 d, .int .u32 e, .int .u32 f, .int .u32 g, .int .u32 h], .string (q.extract 0 64)] wr.drew fun r w' => r = .returned (.agg #[.int .u32 a', .int .u32 b', .int .u32 c', .int .u32 d', .int .u32 e', .int .u32 f', .int .u32 g', .int .u32 h']) ∧ Below wr.heap.size wr w' := by
        have hx := behind_any a b c d e f g h (q.extract 0 64) wr.drew (HEr.out.below (Below.drew (Below.refl _ _))) hsz HU.out
        rw [hu'] at hx
        exact hx.mono fun r w' k => ⟨k.1, ⟨k.2.os, k.2.tape, k.2.output, k.2.size, k.2.block⟩⟩
      have CB := Lib.hid cB
      have HU' := Lib.hid hu'
      have h64z : (64 : Int) ≤ q.size := by omega
      have hqe : (q.toList == []) = false := by
        rw [Lib.toList_data]
        cases hx : q.data.toList with
        | nil => have := Lib.size_eq q; rw [hx, List.length_nil] at this; omega
        | cons => rfl
      have hblt : w.heap.size < wr.heap.size := H1.out.lt
      clear cB hu'
      clear hsz
      go_wp2_with fail
      go_region_with ((go_at_call 88; refine CB.out.mono ?_; rintro r w2 ⟨rfl, hb2⟩; have d0 := (hb2.cell (p := ⟨w.heap.size, 0, none⟩) hblt).trans c0; have f0 := (hb2.frozen (p := ⟨w.heap.size, 0, none⟩) hblt).trans (H1.out.frozen 0); have d1 := (hb2.cell (p := ⟨w.heap.size, 1, none⟩) hblt).trans c1; have f1 := (hb2.frozen (p := ⟨w.heap.size, 1, none⟩) hblt).trans (H1.out.frozen 1); have d2 := (hb2.cell (p := ⟨w.heap.size, 2, none⟩) hblt).trans c2; have f2 := (hb2.frozen (p := ⟨w.heap.size, 2, none⟩) hblt).trans (H1.out.frozen 2); have d3 := (hb2.cell (p := ⟨w.heap.size, 3, none⟩) hblt).trans c3; have f3 := (hb2.frozen (p := ⟨w.heap.size, 3, none⟩) hblt).trans (H1.out.frozen 3); have d4 := (hb2.cell (p := ⟨w.heap.size, 4, none⟩) hblt).trans c4; have f4 := (hb2.frozen (p := ⟨w.heap.size, 4, none⟩) hblt).trans (H1.out.frozen 4); have d5 := (hb2.cell (p := ⟨w.heap.size, 5, none⟩) hblt).trans c5; have f5 := (hb2.frozen (p := ⟨w.heap.size, 5, none⟩) hblt).trans (H1.out.frozen 5); have d6 := (hb2.cell (p := ⟨w.heap.size, 6, none⟩) hblt).trans c6; have f6 := (hb2.frozen (p := ⟨w.heap.size, 6, none⟩) hblt).trans (H1.out.frozen 6); have d7 := (hb2.cell (p := ⟨w.heap.size, 7, none⟩) hblt).trans c7; have f7 := (hb2.frozen (p := ⟨w.heap.size, 7, none⟩) hblt).trans (H1.out.frozen 7); have HB2 := Lib.hid hb2; clear hb2))
      all_goals (try go_wp2_with fail)
      all_goals
        go_roundw
        case rel =>
          have hx : (q.extract 64 q.size).size = q.size - 64 := by rw [Lib.size_eq, drop_of2, List.length_drop, ← Lib.size_eq]
          have g1 := (H1.out.below HB2.out hblt)
          have g2 := ((((((((g1.set 0 a').set 1 b').set 2 c').set 3 d').set 4 e').set 5 f').set 6 g').set 7 h')
          have k2 := H2.out.below HB2.out H2.out.lt
          refine ⟨q.extract 64 q.size, (a', b', c', d', e', f', g', h'), rfl, ?_, ?_, ?_, ?_, g2, ?_, ?_⟩
          · rw [hx]; have := HQm.out; omega
          · rw [hx]; omega
          · rw [← HQ.out, hx, drop_of2, show q.size / 64 = (q.size - 64) / 64 + 1 by omega, blocks, ← take_of2, HU'.out]
          · rw [← HU'.out]; exact words_block _ _
          · exact (((((((k2.setOther _ (by simp)).setOther _ (by simp)).setOther _ (by simp)).setOther _ (by simp)).setOther _ (by simp)).setOther _ (by simp)).setOther _ (by simp)).setOther _ (by simp)
          · exact ((((((((Below.trans HB.out (HB2.out.mono HB.out.size)).setCell (by simp) _).setCell (by simp) _).setCell (by simp) _).setCell (by simp) _).setCell (by simp) _).setCell (by simp) _).setCell (by simp) _).setCell (by simp) _
        case measure =>
          have hx : (q.extract 64 q.size).size = q.size - 64 := by rw [Lib.size_eq, drop_of2, List.length_drop, ← Lib.size_eq]
          show (q.extract 64 q.size).size < q.size
          omega
end HQ
end Go.Proofs.YtfkaackhikbbkaaGreatDoor
end
