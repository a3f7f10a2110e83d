/- Layer 5: the contracts of the document's four, number. -/
import Derived.Test.YtiggdojppfblkaaGreatDoorMg1
import Derived.Test.YtiggdojppfblkaaGreatDoorChecked
import Derived.WalkKit
import Derived.WalkMore
import Derived.IntWalk
import Derived.Below
import Derived.OwnWalk
import Derived.Lib.Hide
import Derived.Lib.IndexBytes
import Derived.Laws.IdiomStrings
import Derived.Laws.BytesArg
import Derived.BigRegion
import Derived.BigQuiet
namespace Go.Proofs.YtiggdojppfblkaaGreatDoor
open Go.RowKit Go.Lib
namespace RQ
open HP HS RP

theorem byte_at (p : ByteArray) (i : Nat) (h : i < p.size) (z : Int) (hz : z = i) :
    ∃ x : Nat, (p.data.toList.getD i 0).toNat = x ∧ (x : Int) < 256 ∧ ∀ W, (Instr.index 9 (.string p) (.int .i64 z)).run Tryz.prog W = .ok (.int .u8 (x : Nat)) W := by
  subst hz
  refine ⟨_, rfl, ?_, fun W => ?_⟩
  · have := (p.data.toList.getD i 0).toNat_lt
    omega
  · have h0 : 0 ≤ (i : Int) ∧ (i : Int) < (p.size : Int) := by omega
    rw [run_index_string W 9 p .i64 (i : Int) Tryz.underlying9, dif_pos h0]
    have e := Lib.data_getElem? p i h
    rw [List.getD_eq_getElem?_getD, e]
    rfl
set_option maxRecDepth 100000 in
set_option maxHeartbeats 1600000 in
theorem rfour_any (n : Nat) (w : World) (hn : n < 4294967296) : Calls Tryz.prog 71 #[.int .u32 n] w fun r w' => r = .returned (.string ⟨(be4 n).toArray⟩) ∧ Below w.heap.size w w' := by
  have hz : (n : Int) < 4294967296 := by omega
  have hrow := heap_alloc_new w (.cells #[.int .u8 ((n : Int) / 16777216), .int .u8 ((n : Int) / 65536 % 256), .int .u8 ((n : Int) / 256 % 256), .int .u8 ((n : Int) % 256)] 5)
  have hcv : (convert 48 9 (.slice (some ⟨w.heap.size, 0, none⟩) 4 4)).run Tryz.prog (w.alloc (.cells #[.int .u8 ((n : Int) / 16777216), .int .u8 ((n : Int) / 65536 % 256), .int .u8 ((n : Int) / 256 % 256), .int .u8 ((n : Int) % 256)] 5)) = .ok (.string ⟨(be4 n).toArray⟩) (w.alloc (.cells #[.int .u8 ((n : Int) / 16777216), .int .u8 ((n : Int) / 65536 % 256), .int .u8 ((n : Int) / 256 % 256), .int .u8 ((n : Int) % 256)] 5)) :=
    run_convert_bytes_back (P := Tryz.prog) _ 48 9 5 ⟨w.heap.size, 0, none⟩ 4 (be4 n) Tryz.underlying48 Tryz.underlying5 Tryz.underlying9 (fun j hj => by
      have hadd : (⟨w.heap.size, 0, none⟩ : Addr).add j = ⟨w.heap.size, j, none⟩ := by unfold Addr.add; split <;> simp_all
      rw [hadd, cell_of_row _ _ j _ _ _ hrow]
      have h4 : j < 4 := by rw [be4_len] at hj; exact hj
      have e : ∀ m, (UInt8.ofNat (m % 256)).toNat = m % 256 := fun m => of_byte _ (Nat.mod_lt _ (by decide))
      simp only [be4_is]
      match j, h4 with
      | 0, _ => simp [e]; omega
      | 1, _ => simp [e]
      | 2, _ => simp [e]
      | 3, _ => simp [e])
  clear hrow
  go_enter Tryz.func71, Tryz.ntmps71
  go_wp2
  go_ret
  exact ⟨rfl, (Below.refl _ _).alloc (Nat.le_refl _) _⟩
set_option maxRecDepth 100000 in
set_option maxHeartbeats 1600000 in
theorem rnumber_any (s : ByteArray) (k : Nat) (w : World) (h : k + 4 ≤ s.size) (hm : s.size ≤ maxLen) : Calls Tryz.prog 108 #[.string s, .int .i64 k] w fun r w' => r = .returned (.int .u32 (num4 s.data.toList k : Nat)) ∧ Below w.heap.size w w' := by
  unfold maxLen at hm
  obtain ⟨x0, e0, l0, i0⟩ := byte_at s k (by omega) k rfl
  obtain ⟨x1, e1, l1, i1⟩ := byte_at s (k + 1) (by omega) ((k : Int) + 1) (by omega)
  obtain ⟨x2, e2, l2, i2⟩ := byte_at s (k + 2) (by omega) ((k : Int) + 2) (by omega)
  obtain ⟨x3, e3, l3, i3⟩ := byte_at s (k + 3) (by omega) ((k : Int) + 3) (by omega)
  have HN : Hid (num4 s.data.toList k = x0 * 16777216 + x1 * 65536 + x2 * 256 + x3) := Lib.hid (by unfold num4; rw [e0, e1, e2, e3])
  have hk : (k : Int) + 4 ≤ 9223372036854775807 := by omega
  clear e0 e1 e2 e3 h hm
  go_enter Tryz.func108, Tryz.ntmps108
  go_wp2_with fail
  go_region
  all_goals (try go_wp2_with fail)
  all_goals
    go_ret
    refine ⟨?_, (Below.refl _ _).drew⟩
    rw [HN.out]
    simp
/-- What the check sum's contract says. -/
def CrcOf : Prop := ∀ (s : ByteArray) (w : World), s.size ≤ maxLen → Calls Tryz.prog 72 #[.string s] w fun e w' => e = .returned (.int .u32 (crcL s.data.toList : Nat)) ∧ w = w'
def packE (l : List UInt8) : Nat := if l.length ≤ MaxP then 0 else 32
def packT (l : List UInt8) : List UInt8 := if l.length ≤ MaxP then packL l else []
theorem bytes_app (a b : List UInt8) : (⟨a.toArray⟩ : ByteArray) ++ ⟨b.toArray⟩ = ⟨(a ++ b).toArray⟩ := by
  apply ByteArray.ext
  simp
theorem bytes_is (s : ByteArray) : s = ⟨s.data.toList.toArray⟩ := by
  apply ByteArray.ext
  simp
set_option maxRecDepth 100000 in
set_option maxHeartbeats 1600000 in
theorem rpack_any (CC : CrcOf) (l : List UInt8) (w : World) (_hm : l.length ≤ maxLen) :
    Calls Tryz.prog 40 #[.string ⟨l.toArray⟩] w fun r w' => r = .returned (.tuple #[.string ⟨(packT l).toArray⟩, .int .i64 (packE l : Nat)]) ∧ Below w.heap.size w w' := by
  unfold packT packE
  have hsz : (⟨l.toArray⟩ : ByteArray).size = l.length := by rw [Lib.size_eq]
  by_cases h : l.length ≤ MaxP
  · rw [if_pos h, if_pos h]
    unfold MaxP at h
    have C1 : Hid (∀ W, Calls Tryz.prog 71 #[.int .u32 l.length] W fun r w' => r = .returned (.string ⟨(be4 l.length).toArray⟩) ∧ Below W.heap.size W w') := Lib.hid (fun W => rfour_any l.length W (by omega))
    have C2 : Hid (∀ W, Calls Tryz.prog 71 #[.int .u32 (crcL (be4 l.length ++ l) : Nat)] W fun r w' => r = .returned (.string ⟨(be4 (crcL (be4 l.length ++ l))).toArray⟩) ∧ Below W.heap.size W w') := Lib.hid (fun W => rfour_any _ W (crcL_lt _))
    have C3 : Hid (∀ W, Calls Tryz.prog 72 #[.string ⟨(be4 l.length ++ l).toArray⟩] W fun r w' => r = .returned (.int .u32 (crcL (be4 l.length ++ l) : Nat)) ∧ W = w') := Lib.hid (fun W => CC _ W (by rw [Lib.size_eq]; simp only [List.length_append, be4_len]; unfold maxLen; omega))
    obtain ⟨F, hF⟩ : ∃ F : List UInt8, be4 l.length = F := ⟨_, rfl⟩
    have hFl : F.length = 4 := by rw [← hF, be4_len]
    have HP : Hid (packL l = F ++ be4 (crcL (F ++ l)) ++ l) := Lib.hid (by unfold packL; rw [hF])
    rw [hF] at C1 C2 C3
    obtain ⟨c, hc⟩ : ∃ c, crcL (F ++ l) = c := ⟨_, rfl⟩
    rw [hc] at C2 C3 HP
    obtain ⟨G, hG⟩ : ∃ G : List UInt8, be4 c = G := ⟨_, rfl⟩
    rw [hG] at C2 HP
    have b1 : (⟨F.toArray⟩ : ByteArray) ++ ⟨l.toArray⟩ = ⟨(F ++ l).toArray⟩ := bytes_app _ _
    have b2 : (⟨F.toArray⟩ : ByteArray) ++ ⟨G.toArray⟩ = ⟨(F ++ G).toArray⟩ := bytes_app _ _
    have b3 : (⟨(F ++ G).toArray⟩ : ByteArray) ++ ⟨l.toArray⟩ = ⟨(F ++ G ++ l).toArray⟩ := bytes_app _ _
    have hlz : (l.length : Int) ≤ 1048576 := by omega
    have hGl : G.length = 4 := by rw [← hG, be4_len]
    have s1 : F.length + l.length ≤ 9223372036854775807 := by omega
    have s2 : F.length + G.length ≤ 9223372036854775807 := by omega
    have s3 : F.length + G.length + l.length ≤ 9223372036854775807 := by omega
    have s4 : F.length + (G.length + l.length) ≤ 9223372036854775807 := by omega
    have t1 : (F.length : Int) + l.length ≤ 9223372036854775807 := by omega
    have t2 : (F.length : Int) + G.length ≤ 9223372036854775807 := by omega
    have t3 : (F.length : Int) + G.length + l.length ≤ 9223372036854775807 := by omega
    clear hF hFl hGl hc hG
    rw [HP.out]
    go_enter Tryz.func40, Tryz.ntmps40
    go_wp2_with (first | (go_at_call 71; with_reducible refine (C1.out _).mono ?_; rintro r w1 ⟨rfl, hb1⟩; have HB1 := Lib.hid hb1; clear hb1) | (go_at_call 71; with_reducible refine (C2.out _).mono ?_; rintro r w2 ⟨rfl, hb2⟩; have HB2 := Lib.hid hb2; clear hb2) | (go_at_call 72; refine (C3.out _).mono ?_; rintro r w3 ⟨rfl, rfl⟩))
    all_goals first | (go_ret2; exact ⟨by simp, Below.trans HB1.out (HB2.out.mono HB1.out.size)⟩) | skip
  · rw [if_neg h, if_neg h]
    unfold MaxP at h
    have hlz : ¬ (l.length : Int) ≤ 1048576 := by omega
    go_enter Tryz.func40, Tryz.ntmps40
    go_wp2
    go_ret2
    exact ⟨rfl, Below.refl _ _⟩
end RQ
end Go.Proofs.YtiggdojppfblkaaGreatDoor
