/- Layer 4: the contract of the program's Hex. -/
import Derived.Test.YtfkaackhikbbkaaGreatDoorArQEnd
namespace Go.Proofs.YtfkaackhikbbkaaGreatDoor
open Go.RowKit Go.Lib
namespace HQ
open HP HS HR

@[go_sem high] theorem and_lo (b : UInt8) : bits .and .u8 ((b.toNat : Nat) : Int) 15 = ((b.toNat : Nat) : Int) % 16 := by
  have h : ∀ n : Nat, n < 256 → bits .and .u8 (n : Int) 15 = (n : Int) % 16 := by decide +kernel
  exact h b.toNat b.toNat_lt
set_option maxRecDepth 100000 in
set_option maxHeartbeats 1600000 in
theorem hex_any (s : ByteArray) (w : World) (hs : 2 * s.size ≤ 140737488355328) :
    Calls Tryz.prog 27 #[.string s] w fun e w' => e = .returned (.string ⟨(hexL s.data.toList).toArray⟩) ∧ Below w.heap.size w w' := by
  have HS := Lib.hid (size_data s)
  obtain ⟨i0, hi, hz0, hz1, hz2⟩ := info8
  obtain ⟨w1, hmk, ho, hg⟩ := run_make_own (P := Tryz.prog) w w.heap.size 48 5 i0 (.int .u8 0) 1 Tryz.underlying48 hi hz0 hz1 .i64 .i64 (2 * s.size) (by rw [hz2]; omega) (by unfold maxLen; omega) (Nat.le_refl _)
  rw [show ((2 * s.size : Nat) : Int) = 2 * (s.size : Int) by omega] at hmk
  have HO1 : Hid (Own8 w1 w.heap.size (.slice (some ⟨w.heap.size, 0, none⟩) 0 (2 * s.size)) []) := Lib.hid (own_of (l := []) ho)
  have HB1 : Hid (Below w.heap.size w w1) := Lib.hid ((Below.refl _ _).grown hg (Nat.le_refl _) (fun k hk => by cases hk))
  clear ho hg hi hz0 hz1 hz2
  go_enter Tryz.func27, Tryz.ntmps27
  go_wp2
  go_loopw [3, 4, 11] (fun s3 _ s11 wr => ∃ k : Nat, k ≤ s.size ∧ s11 = .int .i64 k ∧ Own8 wr w.heap.size s3 (hexL (s.data.toList.take k)) ∧ Below w.heap.size w wr) (fun _ _ s11 _ => s.size - (Go.RowKit.intOf s11).toNat)
  case atStart => exact ⟨0, Nat.zero_le _, rfl, HO1.out, HB1.out⟩
  case round =>
    clear HO1 HB1
    obtain ⟨k, hk, rfl, hown, hb⟩ := hrel
    have HO := Lib.hid hown
    have HB := Lib.hid hb
    have hbs := hb.size
    have hl : (hexL (s.data.toList.take k)).length = 2 * k := by rw [hexL_len, List.length_take, ← HS.out]; omega
    clear hown hb
    by_cases hlt : k < s.size
    · have hz : (k : Int) < s.size := by omega
      have hget := Lib.hid (Lib.data_getElem? s k hlt)
      have hc := (s[k]).toNat_lt
      have hcz : ((s[k].toNat : Nat) : Int) < 256 := by omega
      have HT : Hid (hexL (s.data.toList.take (k + 1)) = hexL (s.data.toList.take k) ++ [UInt8.ofNat (dig (s[k].toNat / 16)), UInt8.ofNat (dig (s[k].toNat % 16))]) := Lib.hid (by rw [take_at hget.out, hexL_snoc])
      have HL := Lib.hid hl
      have HBy : Hid ([UInt8.ofNat (dig (s[k].toNat / 16)), UInt8.ofNat (dig (s[k].toNat % 16))].map (fun b => ((b.toNat : Nat) : Int)) = [((dig (s[k].toNat / 16) : Nat) : Int), ((dig (s[k].toNat % 16) : Nat) : Int)]) := Lib.hid (by
        have h8 := s[k].toNat_lt
        simp only [List.map_cons, List.map_nil]
        rw [byte_of' (dig_lt (by omega)), byte_of' (dig_lt (by omega))])
      clear hc hl
      go_wp2_with fail
      go_region_held3 (fun w' => True) (trivial) ((refine step_app8 rfl _ _ (by rfl) w.heap.size _ (hexL (s.data.toList.take k)) (by rfl) (Own8.alloc (w := wr.drew) HO.out.drew _) (by simp; omega) ⟨wr.heap.size, 0, none⟩ 2 2 [UInt8.ofNat (dig (s[k].toNat / 16)), UInt8.ofNat (dig (s[k].toNat % 16))] (by rfl) rfl (four_bytes wr.drew _ _ _ HBy.out _ (by rfl)) (by rw [HL.out]; omega) ?_; intro v4 w4 ho3 hb3; have HO3 := Lib.hid ho3; have HB3 := Lib.hid (Below.trans (Below.alloc (HB.out.drew) hbs _) hb3); clear ho3 hb3))
      all_goals
        go_wp2_with fail
        go_roundw
        case rel =>
          have h := HO3.out
          rw [← HT.out] at h
          exact ⟨k + 1, by omega, by go_num, h, HB3.out⟩
        case measure => simp [Go.RowKit.intOf]; omega
    · have hz : ¬ (k : Int) < s.size := by omega
      have HT : Hid (s.data.toList.take k = s.data.toList) := Lib.hid (List.take_of_length_le (by rw [← HS.out]; omega))
      have hcv := own_text HO.out
      rw [HT.out] at hcv
      go_wp2_with fail
      go_ret
      exact ⟨rfl, HB.out⟩
end HQ
end Go.Proofs.YtfkaackhikbbkaaGreatDoor
