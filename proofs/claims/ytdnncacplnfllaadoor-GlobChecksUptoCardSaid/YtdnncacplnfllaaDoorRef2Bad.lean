/- The walk of the reference's bad. -/
import Derived.Test.YtdnncacplnfllaaDoorRef2BadP
namespace Go.Proofs.YtdnncacplnfllaaDoor
open Go.RowKit Go.Lib
namespace RG
open GP LitN RN
def IntPost (v : Int) (w : World) (e : Ending) (w' : World) : Prop := e = .returned (.int .i64 v) ∧ w = w'
theorem take_of (s : ByteArray) (k : Nat) : (s.extract 0 k).data.toList = s.data.toList.take k := Lib.extract_from_zero s k
theorem drop_ne (s : ByteArray) (k : Nat) (h : k < s.size) : s.data.toList.drop k ≠ [] := by
  intro e
  have := congrArg List.length e
  rw [List.length_drop, ← Lib.size_eq, List.length_nil] at this
  omega
theorem bad_of (s : ByteArray) (k n : Nat) (h : k < s.size) (hn : ∀ m, 1 ≤ m → m < n → Lib.validD ((s.data.toList.drop k).take m) = false) (he : 4 < n ∨ s.size < k + n) : badB (s.data.toList.drop k) = true := by
  cases hb : badB (s.data.toList.drop k)
  · exfalso
    have hne := drop_ne s k h
    have h1 := good_take hne hb
    have hw := Lib.decodeL_width (s.data.toList.drop k)
    have h4 := width_four (s.data.toList.drop k)
    have hle := Lib.decodeL_le _ hne
    rw [List.length_drop, ← Lib.size_eq] at hle
    by_cases hlt : (Lib.decodeL (s.data.toList.drop k)).2 < n
    · rw [hn _ hw hlt] at h1
      cases h1
    · omega
  · rfl
set_option maxRecDepth 100000 in
set_option maxHeartbeats 1600000 in
theorem bad_any (s : ByteArray) (w : World) (hs : s.size ≤ 400) :
    Calls Tryd.prog 25 #[.string s] w (IntPost (badI s.data.toList) w) := by
  go_enter Tryd.func25, Tryd.ntmps25
  go_wp2_with fail
  go_loop [3] (fun s3 => ∃ k : Nat, k ≤ s.size ∧ s3 = .int .i64 k ∧ ∀ j, j < k → ¬ (Lib.validD (s.data.toList.take j) = true ∧ badB (s.data.toList.drop j) = true)) (fun s3 => s.size - (Go.RowKit.intOf s3).toNat)
  case atStart => exact ⟨0, Nat.zero_le _, rfl, fun j h => by omega⟩
  case round =>
    obtain ⟨k, hk, rfl, hall⟩ := hrel
    have Hall := Lib.hid hall
    clear hall
    by_cases hlt : k < s.size
    · have hz : (k : Int) < s.size := by omega
      have hkz : (k : Int) ≤ s.size := by omega
      have cV := valid_ref (s.extract 0 k) w (by rw [ByteArray.size_extract]; omega)
      rw [take_of] at cV
      cases hv : Lib.validD (s.data.toList.take k)
      · have HN : Hid (∀ j, j < k + 1 → ¬ (Lib.validD (s.data.toList.take j) = true ∧ badB (s.data.toList.drop j) = true)) := Lib.hid (fun j hj => by
          by_cases h : j < k
          · exact Hall.out j h
          · have : j = k := by omega
            subst this
            rw [hv]
            simp)
        rw [hv] at cV
        clear hv
        go_wp2_with fail
        refine cV.mono ?_
        rintro e w' ⟨rfl, rfl⟩
        clear cV
        go_wp2_with fail
        go_round
        case rel => exact ⟨k + 1, by omega, by go_num, HN.out⟩
        case measure => simp [Go.RowKit.intOf]; omega
      · rw [hv] at cV
        have Hv := Lib.hid hv
        clear hv
        go_wp2_with fail
        refine cV.mono ?_
        rintro e w' ⟨rfl, rfl⟩
        clear cV
        go_wp2_with fail
        go_loop [4] (fun s4 => ∃ n : Nat, 1 ≤ n ∧ n ≤ 5 ∧ s4 = .int .i64 n ∧ ∀ m, 1 ≤ m → m < n → Lib.validD ((s.data.toList.drop k).take m) = false) (fun s4 => 5 - (Go.RowKit.intOf s4).toNat)
        case atStart => exact ⟨1, by omega, by omega, rfl, fun m h1 h2 => by omega⟩
        case round =>
          obtain ⟨n, hn1, hn5, rfl, hno⟩ := hrel
          have Hno := Lib.hid hno
          clear hno
          by_cases h4 : n ≤ 4
          · have h4z : (n : Int) ≤ 4 := by omega
            have h4n : ¬ (4 : Int) < n := by omega
            by_cases hks : k + n ≤ s.size
            · have hksz : ((k : Int) + n) ≤ s.size := by omega
              have hksn : ¬ (s.size : Int) < ((k : Int) + n) := by omega
              have hkk : (k : Int) ≤ (k : Int) + n := by omega
              have cV2 := valid_ref (s.extract k (k + n)) w (by rw [ByteArray.size_extract]; omega)
              rw [Lib.extract_data, Nat.add_sub_cancel_left] at cV2
              cases hv2 : Lib.validD ((s.data.toList.drop k).take n)
              · have HN : Hid (∀ m, 1 ≤ m → m < n + 1 → Lib.validD ((s.data.toList.drop k).take m) = false) := Lib.hid (fun m h1 h2 => by
                  by_cases h : m < n
                  · exact Hno.out m h1 h
                  · have : m = n := by omega
                    subst this
                    exact hv2)
                rw [hv2] at cV2
                clear hv2
                go_wp2_with fail
                refine cV2.mono ?_
                rintro e w' ⟨rfl, rfl⟩
                clear cV2
                go_wp2_with fail
                go_round
                case rel => exact ⟨n + 1, by omega, by omega, by go_num, HN.out⟩
                case measure => simp [Go.RowKit.intOf]; omega
              · have HN : Hid (∀ j, j < k + 1 → ¬ (Lib.validD (s.data.toList.take j) = true ∧ badB (s.data.toList.drop j) = true)) := Lib.hid (fun j hj => by
                  by_cases h : j < k
                  · exact Hall.out j h
                  · have : j = k := by omega
                    subst this
                    rw [take_good hn1 (drop_ne s j hlt) hv2]
                    simp)
                rw [hv2] at cV2
                clear hv2
                go_wp2_with fail
                refine cV2.mono ?_
                rintro e w' ⟨rfl, rfl⟩
                clear cV2
                go_wp2_with fail
                go_round
                case rel => exact ⟨k + 1, by omega, by go_num, HN.out⟩
                case measure => simp [Go.RowKit.intOf]; omega
            · have hksz : ¬ ((k : Int) + n) ≤ s.size := by omega
              have hksn : (s.size : Int) < ((k : Int) + n) := by omega
              have HB : Hid (badI s.data.toList = k) := Lib.hid (bad_at (by rw [← Lib.size_eq]; exact hlt) Hv.out (bad_of s k n hlt Hno.out (.inr (by omega))))
              go_wp2_with fail
              go_ret
              exact ⟨by rw [HB.out]; rfl, rfl⟩
          · have h4z : ¬ (n : Int) ≤ 4 := by omega
            have h4n : (4 : Int) < n := by omega
            have HB : Hid (badI s.data.toList = k) := Lib.hid (bad_at (by rw [← Lib.size_eq]; exact hlt) Hv.out (bad_of s k n hlt Hno.out (.inl (by omega))))
            go_wp2_with fail
            go_ret
            exact ⟨by rw [HB.out]; rfl, rfl⟩
    · have hz : ¬ (k : Int) < s.size := by omega
      have HE : Hid (badI s.data.toList = -1) := Lib.hid (bad_none (fun j hj => Hall.out j (by rw [← Lib.size_eq] at hj; omega)))
      go_wp2_with fail
      go_ret
      exact ⟨by rw [HE.out]; rfl, rfl⟩
end RG
end Go.Proofs.YtdnncacplnfllaaDoor
