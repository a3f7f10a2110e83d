/- Texts of this seat, put one behind the other: what its statements share (part 6). -/
import Derived.Test.YtfkaackhikbbkaaGreatDoorMg1
import Derived.Test.YtfkaackhikbbkaaGreatDoorChecked
import Derived.WalkKit
import Derived.WalkMore
import Derived.IntWalk
import Derived.Below
import Derived.OwnWalk
import Derived.Lib.Hide
import Derived.Lib.IndexBytes
import Derived.Laws.IdiomStrings
import Derived.Laws.BytesArg
import Derived.BigRegion
import Derived.BigQuiet
import Derived.Deep.RegionWith
import Derived.Lib.QuietBelow
section
/- Layer 5: the contracts of the document's four, number. -/
namespace Go.Proofs.YtfkaackhikbbkaaGreatDoor
open Go.RowKit Go.Lib
namespace RQ
open HP HS RP

theorem byte_at (p : ByteArray) (i : Nat) (h : i < p.size) (z : Int) (hz : z = i) :
    ∃ x : Nat, (p.data.toList.getD i 0).toNat = x ∧ (x : Int) < 256 ∧ ∀ W, (Instr.index 9 (.string p) (.int .i64 z)).run Tryz.prog W = .ok (.int .u8 (x : Nat)) W := by
  subst hz
  refine ⟨_, rfl, ?_, fun W => ?_⟩
  · have := (p.data.toList.getD i 0).toNat_lt
    omega
  · have h0 : 0 ≤ (i : Int) ∧ (i : Int) < (p.size : Int) := by omega
    rw [run_index_string W 9 p .i64 (i : Int) Tryz.underlying9, dif_pos h0]
    have e := Lib.data_getElem? p i h
    rw [List.getD_eq_getElem?_getD, e]
    rfl
set_option maxRecDepth 100000 in
set_option maxHeartbeats 1600000 in
theorem rfour_any (n : Nat) (w : World) (hn : n < 4294967296) : Calls Tryz.prog 71 #[.int .u32 n] w fun r w' => r = .returned (.string ⟨(be4 n).toArray⟩) ∧ Below w.heap.size w w' := by
  have hz : (n : Int) < 4294967296 := by omega
  have hrow := heap_alloc_new w (.cells #[.int .u8 ((n : Int) / 16777216), .int .u8 ((n : Int) / 65536 % 256), .int .u8 ((n : Int) / 256 % 256), .int .u8 ((n : Int) % 256)] 5)
  have hcv : (convert 48 9 (.slice (some ⟨w.heap.size, 0, none⟩) 4 4)).run Tryz.prog (w.alloc (.cells #[.int .u8 ((n : Int) / 16777216), .int .u8 ((n : Int) / 65536 % 256), .int .u8 ((n : Int) / 256 % 256), .int .u8 ((n : Int) % 256)] 5)) = .ok (.string ⟨(be4 n).toArray⟩) (w.alloc (.cells #[.int .u8 ((n : Int) / 16777216), .int .u8 ((n : Int) / 65536 % 256), .int .u8 ((n : Int) / 256 % 256), .int .u8 ((n : Int) % 256)] 5)) :=
    run_convert_bytes_back (P := Tryz.prog) _ 48 9 5 ⟨w.heap.size, 0, none⟩ 4 (be4 n) Tryz.underlying48 Tryz.underlying5 Tryz.underlying9 (fun j hj => by
      have hadd : (⟨w.heap.size, 0, none⟩ : Addr).add j = ⟨w.heap.size, j, none⟩ := by unfold Addr.add; split <;> simp_all
      rw [hadd, cell_of_row _ _ j _ _ _ hrow]
      have h4 : j < 4 := by rw [be4_len] at hj; exact hj
      have e : ∀ m, (UInt8.ofNat (m % 256)).toNat = m % 256 := fun m => of_byte _ (Nat.mod_lt _ (by decide))
      simp only [be4_is]
      match j, h4 with
      | 0, _ => simp [e]; omega
      | 1, _ => simp [e]
      | 2, _ => simp [e]
      | 3, _ => simp [e])
  clear hrow
  go_enter Tryz.func71, Tryz.ntmps71
  go_wp2
  go_ret
  exact ⟨rfl, (Below.refl _ _).alloc (Nat.le_refl _) _⟩
set_option maxRecDepth 100000 in
set_option maxHeartbeats 1600000 in
theorem rnumber_any (s : ByteArray) (k : Nat) (w : World) (h : k + 4 ≤ s.size) (hm : s.size ≤ maxLen) : Calls Tryz.prog 108 #[.string s, .int .i64 k] w fun r w' => r = .returned (.int .u32 (num4 s.data.toList k : Nat)) ∧ Below w.heap.size w w' := by
  unfold maxLen at hm
  obtain ⟨x0, e0, l0, i0⟩ := byte_at s k (by omega) k rfl
  obtain ⟨x1, e1, l1, i1⟩ := byte_at s (k + 1) (by omega) ((k : Int) + 1) (by omega)
  obtain ⟨x2, e2, l2, i2⟩ := byte_at s (k + 2) (by omega) ((k : Int) + 2) (by omega)
  obtain ⟨x3, e3, l3, i3⟩ := byte_at s (k + 3) (by omega) ((k : Int) + 3) (by omega)
  have HN : Hid (num4 s.data.toList k = x0 * 16777216 + x1 * 65536 + x2 * 256 + x3) := Lib.hid (by unfold num4; rw [e0, e1, e2, e3])
  have hk : (k : Int) + 4 ≤ 9223372036854775807 := by omega
  clear e0 e1 e2 e3 h hm
  go_enter Tryz.func108, Tryz.ntmps108
  go_wp2_with fail
  go_region
  all_goals (try go_wp2_with fail)
  all_goals
    go_ret
    refine ⟨?_, (Below.refl _ _).drew⟩
    rw [HN.out]
    simp
/-- What the check sum's contract says. -/
def CrcOf : Prop := ∀ (s : ByteArray) (w : World), s.size ≤ maxLen → Calls Tryz.prog 72 #[.string s] w fun e w' => e = .returned (.int .u32 (crcL s.data.toList : Nat)) ∧ w = w'
def packE (l : List UInt8) : Nat := if l.length ≤ MaxP then 0 else 32
def packT (l : List UInt8) : List UInt8 := if l.length ≤ MaxP then packL l else []
theorem bytes_app (a b : List UInt8) : (⟨a.toArray⟩ : ByteArray) ++ ⟨b.toArray⟩ = ⟨(a ++ b).toArray⟩ := by
  apply ByteArray.ext
  simp
theorem bytes_is (s : ByteArray) : s = ⟨s.data.toList.toArray⟩ := by
  apply ByteArray.ext
  simp
set_option maxRecDepth 100000 in
set_option maxHeartbeats 1600000 in
theorem rpack_any (CC : CrcOf) (l : List UInt8) (w : World) (_hm : l.length ≤ maxLen) :
    Calls Tryz.prog 40 #[.string ⟨l.toArray⟩] w fun r w' => r = .returned (.tuple #[.string ⟨(packT l).toArray⟩, .int .i64 (packE l : Nat)]) ∧ Below w.heap.size w w' := by
  unfold packT packE
  have hsz : (⟨l.toArray⟩ : ByteArray).size = l.length := by rw [Lib.size_eq]
  by_cases h : l.length ≤ MaxP
  · rw [if_pos h, if_pos h]
    unfold MaxP at h
    have C1 : Hid (∀ W, Calls Tryz.prog 71 #[.int .u32 l.length] W fun r w' => r = .returned (.string ⟨(be4 l.length).toArray⟩) ∧ Below W.heap.size W w') := Lib.hid (fun W => rfour_any l.length W (by omega))
    have C2 : Hid (∀ W, Calls Tryz.prog 71 #[.int .u32 (crcL (be4 l.length ++ l) : Nat)] W fun r w' => r = .returned (.string ⟨(be4 (crcL (be4 l.length ++ l))).toArray⟩) ∧ Below W.heap.size W w') := Lib.hid (fun W => rfour_any _ W (crcL_lt _))
    have C3 : Hid (∀ W, Calls Tryz.prog 72 #[.string ⟨(be4 l.length ++ l).toArray⟩] W fun r w' => r = .returned (.int .u32 (crcL (be4 l.length ++ l) : Nat)) ∧ W = w') := Lib.hid (fun W => CC _ W (by rw [Lib.size_eq]; simp only [List.length_append, be4_len]; unfold maxLen; omega))
    obtain ⟨F, hF⟩ : ∃ F : List UInt8, be4 l.length = F := ⟨_, rfl⟩
    have hFl : F.length = 4 := by rw [← hF, be4_len]
    have HP : Hid (packL l = F ++ be4 (crcL (F ++ l)) ++ l) := Lib.hid (by unfold packL; rw [hF])
    rw [hF] at C1 C2 C3
    obtain ⟨c, hc⟩ : ∃ c, crcL (F ++ l) = c := ⟨_, rfl⟩
    rw [hc] at C2 C3 HP
    obtain ⟨G, hG⟩ : ∃ G : List UInt8, be4 c = G := ⟨_, rfl⟩
    rw [hG] at C2 HP
    have b1 : (⟨F.toArray⟩ : ByteArray) ++ ⟨l.toArray⟩ = ⟨(F ++ l).toArray⟩ := bytes_app _ _
    have b2 : (⟨F.toArray⟩ : ByteArray) ++ ⟨G.toArray⟩ = ⟨(F ++ G).toArray⟩ := bytes_app _ _
    have b3 : (⟨(F ++ G).toArray⟩ : ByteArray) ++ ⟨l.toArray⟩ = ⟨(F ++ G ++ l).toArray⟩ := bytes_app _ _
    have hlz : (l.length : Int) ≤ 1048576 := by omega
    have hGl : G.length = 4 := by rw [← hG, be4_len]
    have s1 : F.length + l.length ≤ 9223372036854775807 := by omega
    have s2 : F.length + G.length ≤ 9223372036854775807 := by omega
    have s3 : F.length + G.length + l.length ≤ 9223372036854775807 := by omega
    have s4 : F.length + (G.length + l.length) ≤ 9223372036854775807 := by omega
    have t1 : (F.length : Int) + l.length ≤ 9223372036854775807 := by omega
    have t2 : (F.length : Int) + G.length ≤ 9223372036854775807 := by omega
    have t3 : (F.length : Int) + G.length + l.length ≤ 9223372036854775807 := by omega
    clear hF hFl hGl hc hG
    rw [HP.out]
    go_enter Tryz.func40, Tryz.ntmps40
    go_wp2_with (first | (go_at_call 71; with_reducible refine (C1.out _).mono ?_; rintro r w1 ⟨rfl, hb1⟩; have HB1 := Lib.hid hb1; clear hb1) | (go_at_call 71; with_reducible refine (C2.out _).mono ?_; rintro r w2 ⟨rfl, hb2⟩; have HB2 := Lib.hid hb2; clear hb2) | (go_at_call 72; refine (C3.out _).mono ?_; rintro r w3 ⟨rfl, rfl⟩))
    all_goals first | (go_ret2; exact ⟨by simp, Below.trans HB1.out (HB2.out.mono HB1.out.size)⟩) | skip
  · rw [if_neg h, if_neg h]
    unfold MaxP at h
    have hlz : ¬ (l.length : Int) ≤ 1048576 := by omega
    go_enter Tryz.func40, Tryz.ntmps40
    go_wp2
    go_ret2
    exact ⟨rfl, Below.refl _ _⟩
end RQ
end Go.Proofs.YtfkaackhikbbkaaGreatDoor
end

section
/- Layer 5: the contract of the document's Next. -/
namespace Go.Proofs.YtfkaackhikbbkaaGreatDoor
open Go.RowKit Go.Lib Go.BigFrame
namespace RQ
open HP HS RP

def nextV (l : List UInt8) : Ending := .returned (.tuple #[.string ⟨(nextL l).2.1.toArray⟩, .string ⟨(nextL l).2.2.toArray⟩, .int .i64 ((nextL l).1 : Nat)])
theorem ext_bytes (l : List UInt8) (a b : Nat) : (⟨l.toArray⟩ : ByteArray).extract a b = ⟨((l.drop a).take (b - a)).toArray⟩ := by
  apply ByteArray.ext
  apply Array.ext'
  exact Lib.extract_data _ a b
/-- A callee's contract, met in a world of a region that draws its order. -/
theorem reg_of {f : FuncId} {args : Array Value} {v : Value} {w : World} (h : ∀ W, Below w.heap.size w W → Calls Tryz.prog f args W fun e w' => e = .returned v ∧ Below W.heap.size W w') (d : Nat) (os : Array Obj) :
    Calls Tryz.prog f args (Go.Sort.grow (redrawn w d) os) fun e w'' => e = .returned v ∧ ∃ p : Regrown, w'' = Go.Sort.grow (redrawn w p.d) p.os := Calls.regrown_of (h _ (below_regrown w d os))
theorem sl_mid (S : ByteArray) (a b : Nat) (za zb : Int) (ha : za = a) (hb : zb = b) (h1 : a ≤ b) (h2 : b ≤ S.size) (W : World) :
    (Instr.slice 9 (.string S) (some (.int .i64 za)) (some (.int .i64 zb)) none).run Tryz.prog W = .ok (.string ⟨((S.data.toList.drop a).take (b - a)).toArray⟩) W := by
  subst ha hb
  rw [run_slice_string W 9 S .i64 .i64 a b Tryz.underlying9 (by omega) (by omega) (by omega), bytes_is S, ext_bytes]
  rfl
theorem sl_from (S : ByteArray) (a : Nat) (za : Int) (ha : za = a) (h2 : a ≤ S.size) (W : World) :
    (Instr.slice 9 (.string S) (some (.int .i64 za)) none none).run Tryz.prog W = .ok (.string ⟨(S.data.toList.drop a).toArray⟩) W := by
  subst ha
  rw [run_slice_string_from_if W 9 S .i64 a Tryz.underlying9, if_pos (by omega), bytes_is S, ext_bytes, List.take_of_length_le (by rw [List.length_drop, Lib.size_eq]; simp)]
  rfl
theorem sl_to (S : ByteArray) (a : Nat) (za : Int) (ha : za = a) (h2 : a ≤ S.size) (W : World) :
    (Instr.slice 9 (.string S) none (some (.int .i64 za)) none).run Tryz.prog W = .ok (.string ⟨(S.data.toList.take a).toArray⟩) W := by
  subst ha
  rw [run_slice_string_to_if W 9 S .i64 a Tryz.underlying9, if_pos (by omega), bytes_is S, ext_bytes]
  rfl
set_option maxRecDepth 100000 in
set_option maxHeartbeats 1600000 in
theorem rnext_any (CC : CrcOf) (l : List UInt8) (w : World) (hm : l.length ≤ 9223372036854775807) :
    Calls Tryz.prog 79 #[.string ⟨l.toArray⟩] w fun r w' => r = nextV l ∧ Below w.heap.size w w' := by
  have hsz : (⟨l.toArray⟩ : ByteArray).size = l.length := by rw [Lib.size_eq]
  obtain ⟨S, hS⟩ : ∃ S : ByteArray, S = ⟨l.toArray⟩ := ⟨_, rfl⟩
  have HSz : S.size = l.length := by rw [hS]; exact hsz
  have hSd : S.data.toList = l := by rw [hS]
  rw [← hS]
  obtain ⟨z, hz⟩ : ∃ z, l.length = z := ⟨_, rfl⟩
  by_cases h8 : z < 8
  · have hV : nextL l = (50, [], []) := by unfold nextL; rw [if_pos (by omega)]
    have HV : Hid (nextV l = .returned (.tuple #[.string ⟨#[]⟩, .string ⟨#[]⟩, .int .i64 50])) := Lib.hid (by unfold nextV; rw [hV]; rfl)
    have h8z : (S.size : Int) < 8 := by omega
    clear hV hS hSd hsz HSz hz
    go_enter Tryz.func79, Tryz.ntmps79
    go_wp2
    go_ret3
    exact ⟨by rw [HV.out]; rfl, Below.refl _ _⟩
  · obtain ⟨n, hn⟩ : ∃ n, num4 l 0 = n := ⟨_, rfl⟩
    have hnl : n < 4294967296 := by rw [← hn]; exact num_lt l 0
    have C1 : Hid (∀ W, Calls Tryz.prog 108 #[.string S, .int .i64 0] W fun r w' => r = .returned (.int .u32 n) ∧ Below W.heap.size W w') := Lib.hid (fun W => by
      have h := rnumber_any S 0 W (by omega) (by unfold maxLen; omega)
      rw [hSd, hn] at h
      exact h)
    have h8z : ¬ (S.size : Int) < 8 := by omega
    have hnz : (n : Int) < 4294967296 := by omega
    by_cases h1 : MaxP < n
    · have hV : nextL l = (32, [], []) := by unfold nextL; rw [if_neg (by omega), hn, if_pos h1]
      have HV : Hid (nextV l = .returned (.tuple #[.string ⟨#[]⟩, .string ⟨#[]⟩, .int .i64 32])) := Lib.hid (by unfold nextV; rw [hV]; rfl)
      have h1z : (1048576 : Int) < n := by unfold MaxP at h1; omega
      clear hV hS hSd hsz HSz hz hnl hn
      go_enter Tryz.func79, Tryz.ntmps79
      go_wp2_with (go_at_call 108; with_reducible refine (C1.out _).mono ?_; rintro r w1 ⟨rfl, hb1⟩; have HB1 := Lib.hid hb1; clear hb1)
      go_ret3
      exact ⟨by rw [HV.out]; rfl, HB1.out⟩
    · have h1z : ¬ (1048576 : Int) < n := by unfold MaxP at h1; omega
      by_cases h2 : z < n + 8
      · have hV : nextL l = (50, [], []) := by unfold nextL; rw [if_neg (by omega), hn, if_neg h1, hz, if_pos h2]
        have HV : Hid (nextV l = .returned (.tuple #[.string ⟨#[]⟩, .string ⟨#[]⟩, .int .i64 50])) := Lib.hid (by unfold nextV; rw [hV]; rfl)
        have h2z : (S.size : Int) - 8 < n := by omega
        clear hV hS hSd hsz hnl hn
        obtain ⟨q, hq⟩ : ∃ q : Nat, (S.size : Int) = q + 8 := ⟨z - 8, by omega⟩
        have h2q : (q : Int) < n := by omega
        clear h8 h1 h2 hz HSz hm h2z h8z
        have h8z : ¬ (q : Int) + 8 < 8 := by omega
        go_enter Tryz.func79, Tryz.ntmps79
        repeat (first | (go_at_call 108; with_reducible refine (C1.out _).mono ?_; rintro r w1 ⟨rfl, hb1⟩; simp only []; have HB1 := Lib.hid hb1; clear hb1) | go_skip | go_guarded | go_step | go_upon)
        go_ret3
        exact ⟨by rw [HV.out]; rfl, HB1.out⟩
      · obtain ⟨q, hq⟩ : ∃ q : Nat, (S.size : Int) = q + 8 := ⟨z - 8, by omega⟩
        have h2q : ¬ (q : Int) < n := by omega
        obtain ⟨m, hm4⟩ : ∃ m, num4 l 4 = m := ⟨_, rfl⟩
        have hml : m < 4294967296 := by rw [← hm4]; exact num_lt l 4
        have C2 : Hid (∀ W, Calls Tryz.prog 108 #[.string S, .int .i64 4] W fun r w' => r = .returned (.int .u32 m) ∧ Below W.heap.size W w') := Lib.hid (fun W => by
          have h := rnumber_any S 4 W (by omega) (by unfold maxLen; omega)
          rw [hSd, hm4] at h
          exact h)
        have hmz : (m : Int) < 4294967296 := by omega
        clear h8z
        have h8z : ¬ (q : Int) + 8 < 8 := by omega
        obtain ⟨P, hP⟩ : ∃ P, (l.drop 8).take n = P := ⟨_, rfl⟩
        obtain ⟨R, hR⟩ : ∃ R, l.drop (8 + n) = R := ⟨_, rfl⟩
        obtain ⟨F, hF⟩ : ∃ F, l.take 4 = F := ⟨_, rfl⟩
        have hPl : P.length = n := by rw [← hP, List.length_take, List.length_drop]; omega
        have hFl : F.length = 4 := by rw [← hF, List.length_take]; omega
        obtain ⟨TP, hTP⟩ : ∃ T : ByteArray, ⟨P.toArray⟩ = T := ⟨_, rfl⟩
        obtain ⟨TR, hTR⟩ : ∃ T : ByteArray, ⟨R.toArray⟩ = T := ⟨_, rfl⟩
        obtain ⟨TF, hTF⟩ : ∃ T : ByteArray, ⟨F.toArray⟩ = T := ⟨_, rfl⟩
        obtain ⟨TC, hTC⟩ : ∃ T : ByteArray, ⟨(F ++ P).toArray⟩ = T := ⟨_, rfl⟩
        have s1 := sl_mid S 8 (8 + n) 8 (8 + (n : Int)) rfl (by omega) (by omega) (by omega)
        have s2 := sl_to S 4 4 rfl (by omega)
        have s3 := sl_from S (8 + n) (8 + (n : Int)) (by omega) (by omega)
        rw [hSd, Nat.add_sub_cancel_left, hP, hTP] at s1
        rw [hSd, hF, hTF] at s2
        rw [hSd, hR, hTR] at s3
        have hcat : TF ++ TP = TC := by rw [← hTF, ← hTP, ← hTC]; exact bytes_app _ _
        have hcl : TF.size + TP.size ≤ 9223372036854775807 := by rw [← hTF, ← hTP, Lib.size_eq, Lib.size_eq]; simp; omega
        obtain ⟨c, hc⟩ : ∃ c, crcL (F ++ P) = c := ⟨_, rfl⟩
        have hcz : (c : Int) < 4294967296 := by have := crcL_lt (F ++ P); omega
        have C3 : Hid (∀ W, Calls Tryz.prog 72 #[.string TC] W fun r w' => r = .returned (.int .u32 c) ∧ W = w') := Lib.hid (fun W => by
          have h := CC TC W (by rw [← hTC, Lib.size_eq]; simp [maxLen]; omega)
          have e : TC.data.toList = F ++ P := by rw [← hTC]
          rw [e, hc] at h
          exact h)
        by_cases hmc : m = c
        · have HV : Hid (nextV l = .returned (.tuple #[.string TP, .string TR, .int .i64 0])) := Lib.hid (by
            unfold nextV nextL
            rw [if_neg (by omega), hn, if_neg h1, hz, if_neg h2, hm4, hF, hP, hR, hc, if_pos hmc, ← hTP, ← hTR]
            rfl)
          have hmcz : ((m : Int) != (c : Int)) = false := by rw [hmc]; simp
          have hqs : (q : Int) + 8 ≤ 9223372036854775807 := by omega
          clear h8 h1 h2 hz hm HSz hSd hsz hS hn hm4 hml hnl hP hR hF hPl hFl hTP hTR hTF hTC hc hmc
          go_enter Tryz.func79, Tryz.ntmps79
          repeat (first | (go_at_call_of 108 (Value.int IntKind.i64 0); refine (C1.out _).mono ?_; rintro r w1 ⟨rfl, hb1⟩; simp only []; have HB1 := Lib.hid hb1; clear hb1) | go_skip | go_guarded | go_step | go_upon)
          have D2 := Lib.hid (reg_of (w := w1) (fun W _ => C2.out W))
          have D3 := Lib.hid (reg_of (w := w1) (fun W _ => (C3.out W).mono fun r w' h => ⟨h.1, h.2 ▸ Below.refl _ _⟩))
          with_reducible refine wp_region_quiet_below (by kernel_rfl) (by kernel_rfl) ?_
          repeat (go_big_quiet_step (first | (go_at_call 108; exact D2.out _ _) | (go_at_call 72; exact D3.out _ _)))
          refine wpQuiet_nil ?_
          intro _ hw'
          obtain ⟨⟨dq, osq⟩, hw''⟩ := hw'
          subst hw''
          have HB2 : Hid (Below w.heap.size w (Go.Sort.grow (redrawn w1 dq) osq)) := Lib.hid (Below.trans HB1.out ((below_regrown w1 dq osq).mono HB1.out.size))
          generalize Go.Sort.grow (redrawn w1 dq) osq = w2 at HB2 ⊢
          repeat (first | go_skip | go_guarded | go_step | go_upon)
          go_quiet (fail)
          rename_i nq
          have HB3 : Hid (Below w.heap.size w (w2.drewN nq)) := Lib.hid ⟨HB2.out.os, HB2.out.tape, HB2.out.output, HB2.out.size, HB2.out.block⟩
          generalize w2.drewN nq = w3 at HB3 ⊢
          repeat (first | go_skip | go_guarded | go_step | go_upon)
          go_ret3
          exact ⟨HV.out.symm, HB3.out⟩
        · have HV : Hid (nextV l = .returned (.tuple #[.string ⟨#[]⟩, .string ⟨#[]⟩, .int .i64 51])) := Lib.hid (by
            unfold nextV nextL
            rw [if_neg (by omega), hn, if_neg h1, hz, if_neg h2, hm4, hF, hP, hc, if_neg hmc]
            rfl)
          have hmcz : ((m : Int) != (c : Int)) = true := by simp; omega
          have hqs : (q : Int) + 8 ≤ 9223372036854775807 := by omega
          clear h8 h1 h2 hz hm HSz hSd hsz hS hn hm4 hml hnl hP hR hF hPl hFl hTP hTR hTF hTC hc hmc
          go_enter Tryz.func79, Tryz.ntmps79
          repeat (first | (go_at_call_of 108 (Value.int IntKind.i64 0); refine (C1.out _).mono ?_; rintro r w1 ⟨rfl, hb1⟩; simp only []; have HB1 := Lib.hid hb1; clear hb1) | go_skip | go_guarded | go_step | go_upon)
          have D2 := Lib.hid (reg_of (w := w1) (fun W _ => C2.out W))
          have D3 := Lib.hid (reg_of (w := w1) (fun W _ => (C3.out W).mono fun r w' h => ⟨h.1, h.2 ▸ Below.refl _ _⟩))
          with_reducible refine wp_region_quiet_below (by kernel_rfl) (by kernel_rfl) ?_
          repeat (go_big_quiet_step (first | (go_at_call 108; exact D2.out _ _) | (go_at_call 72; exact D3.out _ _)))
          refine wpQuiet_nil ?_
          intro _ hw'
          obtain ⟨⟨dq, osq⟩, hw''⟩ := hw'
          subst hw''
          have HB2 : Hid (Below w.heap.size w (Go.Sort.grow (redrawn w1 dq) osq)) := Lib.hid (Below.trans HB1.out ((below_regrown w1 dq osq).mono HB1.out.size))
          generalize Go.Sort.grow (redrawn w1 dq) osq = w2 at HB2 ⊢
          repeat (first | go_skip | go_guarded | go_step | go_upon)
          go_ret3
          exact ⟨by rw [HV.out]; rfl, HB2.out⟩
end RQ
end Go.Proofs.YtfkaackhikbbkaaGreatDoor
end

section
/- Layer 5 over lists, continued: what Next and All come to, step by step (no program is read here). -/
namespace Go.Proofs.YtfkaackhikbbkaaGreatDoor
open Go
namespace RP
open HP HS
theorem next_cases (s : List UInt8) : (∃ p r, nextL s = (0, p, r)) ∨ ∃ e, nextL s = (e + 1, [], []) ∧ e < 51 := by
  unfold nextL
  by_cases h1 : s.length < 8
  · rw [if_pos h1]; exact .inr ⟨49, rfl, by decide⟩
  · rw [if_neg h1]
    by_cases h2 : MaxP < num4 s 0
    · rw [if_pos h2]; exact .inr ⟨31, rfl, by decide⟩
    · rw [if_neg h2]
      by_cases h3 : s.length < num4 s 0 + 8
      · rw [if_pos h3]; exact .inr ⟨49, rfl, by decide⟩
      · rw [if_neg h3]
        by_cases h4 : num4 s 4 = crcL (s.take 4 ++ (s.drop 8).take (num4 s 0))
        · rw [if_pos h4]; exact .inl ⟨_, _, rfl⟩
        · rw [if_neg h4]; exact .inr ⟨50, rfl, by decide⟩
theorem next_shrinks {s p r : List UInt8} (h : nextL s = (0, p, r)) : s.length = p.length + 8 + r.length := by
  rw [(next_ok h).1, List.length_append, pack_len]
theorem all_fuel : ∀ (f g : Nat) (s : List UInt8), s.length ≤ f → s.length ≤ g → allGo f s = allGo g s
  | 0, 0, _, _, _ => rfl
  | 0, g + 1, s, h, _ => by
    have e : s = [] := List.eq_nil_of_length_eq_zero (by omega)
    subst e
    rfl
  | f + 1, 0, s, _, h => by
    have e : s = [] := List.eq_nil_of_length_eq_zero (by omega)
    subst e
    rfl
  | f + 1, g + 1, s, hf, hg => by
    rw [allGo, allGo]
    by_cases h0 : s = []
    · rw [if_pos h0, if_pos h0]
    · rw [if_neg h0, if_neg h0]
      rcases next_cases s with ⟨p, r, hn⟩ | ⟨e, hn, _⟩
      · have := next_shrinks hn
        rw [hn]
        simp only
        rw [all_fuel f g r (by omega) (by omega)]
      · rw [hn]
theorem all_nil : allL [] = ([], 0, 0) := rfl
theorem all_step {s p r : List UInt8} (h : nextL s = (0, p, r)) : allL s = (p :: (allL r).1, s.length - r.length + (allL r).2.1, (allL r).2.2) := by
  have hs := next_shrinks h
  have h0 : s ≠ [] := fun e => by rw [e] at hs; simp at hs; omega
  unfold allL
  obtain ⟨f, hf⟩ : ∃ f, s.length = f + 1 := ⟨s.length - 1, by omega⟩
  rw [all_fuel s.length (f + 1) s (Nat.le_refl _) (by omega), allGo, if_neg h0, h]
  simp only
  rw [all_fuel f r.length r (by omega) (Nat.le_refl _)]
theorem all_bad {s : List UInt8} {e : Nat} (h0 : s ≠ []) (h : nextL s = (e + 1, [], [])) : allL s = ([], 0, e + 1) := by
  unfold allL
  cases hl : s.length with
  | zero => exact absurd (List.eq_nil_of_length_eq_zero hl) h0
  | succ f => rw [allGo, if_neg h0, h]
end RP
end Go.Proofs.YtfkaackhikbbkaaGreatDoor
end

section
/- Layer 5: the contracts of the document's One, All and Join. -/
namespace Go.Proofs.YtfkaackhikbbkaaGreatDoor
open Go.RowKit Go.Lib Go.BigFrame
namespace RQ
open HP HS RP OM

def txt (l : List UInt8) : Value := .string ⟨l.toArray⟩
def oneV (l : List UInt8) : Ending := .returned (.tuple #[txt (oneL l).2, .int .i64 ((oneL l).1 : Nat)])
set_option maxRecDepth 100000 in
set_option maxHeartbeats 1600000 in
theorem rone_any (CC : CrcOf) (l : List UInt8) (w : World) (hm : l.length ≤ 9223372036854775807) :
    Calls Tryz.prog 44 #[txt l] w fun r w' => r = oneV l ∧ Below w.heap.size w w' := by
  have cN := rnext_any CC l w hm
  unfold nextV at cN
  unfold txt
  rcases next_cases l with ⟨p, r, hn⟩ | ⟨e, hn, he⟩
  · rw [hn] at cN
    simp only at cN
    cases r with
    | nil =>
      have HV : Hid (oneV l = .returned (.tuple #[txt p, .int .i64 0])) := Lib.hid (by unfold oneV oneL; rw [hn]; rfl)
      have CN := Lib.hid cN
      clear cN hn
      go_enter Tryz.func44, Tryz.ntmps44
      go_wp2_with (go_at_call 79; refine CN.out.mono ?_; rintro r w1 ⟨rfl, hb1⟩; have HB1 := Lib.hid hb1; clear hb1)
      go_ret2
      exact ⟨HV.out.symm, HB1.out⟩
    | cons x r =>
      have HV : Hid (oneV l = .returned (.tuple #[.string ⟨#[]⟩, .int .i64 32])) := Lib.hid (by unfold oneV oneL; rw [hn]; rfl)
      have CN := Lib.hid cN
      obtain ⟨T, hT⟩ : ∃ T : ByteArray, ⟨(x :: r).toArray⟩ = T := ⟨_, rfl⟩
      have hTe : T.toList.isEmpty = false := by rw [← hT, Lib.toList_data]; rfl
      rw [hT] at CN
      clear cN hn hT
      go_enter Tryz.func44, Tryz.ntmps44
      go_wp2_with (go_at_call 79; refine CN.out.mono ?_; rintro r w1 ⟨rfl, hb1⟩; have HB1 := Lib.hid hb1; clear hb1)
      go_ret2
      exact ⟨by rw [HV.out]; rfl, HB1.out⟩
  · rw [hn] at cN
    simp only at cN
    have HV : Hid (oneV l = .returned (.tuple #[.string ⟨#[]⟩, .int .i64 ((e + 1 : Nat) : Int)])) := Lib.hid (by unfold oneV oneL; rw [hn]; rfl)
    obtain ⟨z, hz⟩ : ∃ z : Int, ((e + 1 : Nat) : Int) = z := ⟨_, rfl⟩
    have hz0 : (z == 0) = false := by simp; omega
    have hz1 : z ≠ 0 := by omega
    rw [hz] at HV cN
    have CN := Lib.hid cN
    clear cN hn hz
    go_enter Tryz.func44, Tryz.ntmps44
    go_wp2_with (go_at_call 79; refine CN.out.mono ?_; rintro r w1 ⟨rfl, hb1⟩; have HB1 := Lib.hid hb1; clear hb1)
    go_ret2
    exact ⟨HV.out.symm, HB1.out⟩
end RQ
end Go.Proofs.YtfkaackhikbbkaaGreatDoor
end
