/- Layer 4: the contract of the document's padded. -/
import Derived.Test.YtmpmmebmhffaeaaDoorQHashEnd
set_option linter.all false
set_option maxRecDepth 100000
set_option maxHeartbeats 25600000
namespace Go.Proofs.YtmpmmebmhffaeaaDoor
open Go.RowKit Go.Lib
namespace HX
open HP HS HR HQ

set_option maxRecDepth 100000 in
set_option maxHeartbeats 1600000 in
theorem rpad_any (p : ByteArray) (w : World) (hp : p.size ≤ 400) :
    Calls Tryd.prog 51 #[.string p] w fun r w' => r = .returned (.string ⟨(padL p.data.toList).toArray⟩) ∧ Below w.heap.size w w' := by
  rw [show padL p.data.toList = endL p.data.toList p.size by rw [Lib.size_eq]; rfl]
  obtain ⟨n, hn0⟩ : ∃ n, p.size = n := ⟨_, rfl⟩
  have hn : n ≤ 400 := by omega
  rw [hn0]
  obtain ⟨v0, w0, hconv, ho0, hb0⟩ := text_own w p
  obtain ⟨R, hR⟩ : ∃ R, p.data.toList = R := ⟨_, rfl⟩
  obtain ⟨m, hm⟩ : ∃ m, R.length = m := ⟨_, rfl⟩
  rw [hR] at ho0
  have hml : m ≤ 400 := by rw [← hm, ← hR, ← Lib.size_eq]; exact hp
  have HM := Lib.hid hm
  have HR := Lib.hid hR
  have HO0 := Lib.hid ho0
  have HB0 := Lib.hid hb0
  have hs0 := hb0.size
  have hnl := noughts_lt m
  clear ho0 hb0 hm hR hp
  go_enter Tryd.func51, Tryd.ntmps51
  go_wp2_with (first | (at_builtin; refine wpList_app8 rfl _ _ rfl w.heap.size _ R rfl (HO0.out.alloc _) (by simp; omega) ⟨w0.heap.size, 0, none⟩ 1 1 [128] rfl rfl (one_byte _ _ _ _ rfl) (by rw [HM.out]; omega) ?_; intro v3 w3 ho3 hb3; have HO3 := Lib.hid ho3; have HB3 := Lib.hid (Below.trans (HB0.out.alloc hs0 _) hb3); have hs3 := HB3.out.size; clear ho3 hb3))
  go_loopw [3] (fun s5 wr => ∃ k : Nat, k ≤ noughts m ∧ Own8 wr w.heap.size s5 (R ++ [128] ++ List.replicate k 0) ∧ Below w.heap.size w wr) (fun s5 _ => match s5 with | .slice _ l _ => 600 - l | _ => 0)
  case atStart => exact ⟨0, Nat.zero_le _, by rw [List.replicate_zero, List.append_nil]; exact HO3.out, HB3.out⟩
  case round =>
    clear HO3 HB3 hs3
    obtain ⟨k, hk, ho, hb⟩ := hrel
    obtain ⟨ao, cap, hv⟩ := ho.shape
    have hll : (R ++ [128] ++ List.replicate k 0).length = m + 1 + k := by simp only [List.length_append, List.length_singleton, List.length_replicate, HM.out]
    rw [hll] at hv
    subst hv
    have HO := Lib.hid ho
    have HB := Lib.hid hb
    have hs := hb.size
    have hm := noughts_more hk
    have HLL := Lib.hid hll
    clear ho hb hll
    by_cases hlt : k < noughts m
    · have hmz : ((m : Int) + 1 + k) % 64 ≠ 56 := by omega
      have hmb : (((m : Int) + 1 + k) % 64 != 56) = true := by simpa using hmz
      clear hm
      go_wp2_with (first | (at_builtin; refine wpList_app8 rfl _ _ rfl w.heap.size _ (R ++ [128] ++ List.replicate k 0) (by first | rfl | (rw [HLL.out])) (HO.out.alloc _) (by simp; omega) ⟨wr.heap.size, 0, none⟩ 1 1 [0] rfl rfl (one_byte _ _ _ _ rfl) (by rw [HLL.out]; omega) ?_; intro v3 w3 ho3 hb3; have HO3 := Lib.hid ho3; have HB3 := Lib.hid (Below.trans (HB.out.alloc hs _) hb3); have hs3 := HB3.out.size; clear ho3 hb3))
      go_roundw
      case rel =>
        refine ⟨k + 1, by omega, ?_, HB3.out⟩
        have h := HO3.out
        rw [List.append_assoc (R ++ [128]), ← List.replicate_succ'] at h
        exact h
      case measure =>
        obtain ⟨ao3, cap3, hv3⟩ := HO3.out.shape
        rw [List.length_append, HLL.out, List.length_singleton] at hv3
        rw [hv3]
        show 600 - (m + 1 + k + 1) < 600 - (m + 1 + k)
        omega
    · have hk2 : k = noughts m := by omega
      have hmz : ((m : Int) + 1 + k) % 64 = 56 := by omega
      have hmb : (((m : Int) + 1 + k) % 64 != 56) = false := by simpa using hmz
      clear hmz
      have hkl : k < 64 := by omega
      have HKE := Lib.hid hk2
      clear hm hnl hk hlt hk2
      go_wp2_with fail
      go_loopw [3, 5] (fun s5 s7 wr => ∃ q : Nat, q ≤ 8 ∧ s7 = .int .i64 (7 - (q : Int)) ∧ Own8 wr w.heap.size s5 (R ++ [128] ++ List.replicate k 0 ++ (be8 (n * 8)).take q) ∧ Below w.heap.size w wr) (fun _ s7 _ => (Go.RowKit.intOf s7 + 1).toNat)
      case atStart => exact ⟨0, by omega, rfl, by rw [List.take_zero, List.append_nil]; exact HO.out, HB.out⟩
      case round =>
        clear HO HB hs
        obtain ⟨q, hq, rfl, ho, hb⟩ := hrel
        obtain ⟨ao2, cap2, hv⟩ := ho.shape
        have hll : (R ++ [128] ++ List.replicate k 0 ++ (be8 (n * 8)).take q).length = m + 1 + k + q := by rw [List.length_append, HLL.out, List.length_take, be8_len]; omega
        rw [hll] at hv
        subst hv
        have HO := Lib.hid ho
        have HB := Lib.hid hb
        have hs := hb.size
        have HLL2 := Lib.hid hll
        clear ho hb hll
        by_cases hlt : q < 8
        · have hz : (q : Int) ≤ 7 := by omega
          have hzb : decide ((q : Int) ≤ 7) = true := by simpa using hz
          have HBy : Hid ((n : Int) * 8 / 2 ^ (8 * (7 - q)) % 256 = ((UInt8.ofNat (n * 8 / 2 ^ (8 * (7 - q)) % 256)).toNat : Nat)) := Lib.hid (by
            rw [byte_of' (Nat.mod_lt _ (by decide))]
            simp)
          go_wp2_with (first | (at_builtin; refine wpList_app8 rfl _ _ rfl w.heap.size _ (R ++ [128] ++ List.replicate k 0 ++ (be8 (n * 8)).take q) rfl (HO.out.alloc _) (by simp; omega) ⟨wr.heap.size, 0, none⟩ 1 1 [UInt8.ofNat (n * 8 / 2 ^ (8 * (7 - q)) % 256)] rfl rfl (one_byte _ _ _ _ HBy.out) (by rw [HLL2.out]; omega) ?_; intro v4 w4 ho3 hb3; have HO3 := Lib.hid ho3; have HB3 := Lib.hid (Below.trans (HB.out.alloc hs _) hb3); have hs3 := HB3.out.size; clear ho3 hb3))
          go_roundw
          case rel =>
            have h := HO3.out
            rw [List.append_assoc, ← be8_take _ _ hlt] at h
            exact ⟨q + 1, by omega, by go_num, h, HB3.out⟩
          case measure => simp [Go.RowKit.intOf]; omega
        · have hz : ¬ (q : Int) ≤ 7 := by omega
          have hzb : decide ((q : Int) ≤ 7) = false := by simpa using hz
          have e8 : q = 8 := by omega
          have HT : Hid (R ++ [128] ++ List.replicate k 0 ++ (be8 (n * 8)).take q = endL R n) := Lib.hid (by
            rw [List.take_of_length_le (by rw [be8_len]; omega), HKE.out, ← HM.out]
            rfl)
          have hcv := own_text HO.out
          rw [HT.out] at hcv
          clear e8
          go_wp2_with fail
          go_ret
          exact ⟨by rw [HR.out]; rfl, HB.out⟩
end HX
end Go.Proofs.YtmpmmebmhffaeaaDoor
