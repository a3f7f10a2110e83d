/- Layer 6: the contracts of the document's right, find, dir. -/
import Derived.Test.YtfbhbadcgecgmaaGreatDoorMg1
import Derived.Test.YtfbhbadcgecgmaaGreatDoorR01
import Derived.WalkKit
import Derived.WalkMore
import Derived.IntWalk
import Derived.Below
import Derived.Lib.Hide
import Derived.BigRegion
import Derived.BigQuiet
import Derived.Deep.RegionWith
import Derived.Lib.QuietBelow
import Derived.Lib.IndexBytes
namespace Go.Proofs.YtfbhbadcgecgmaaGreatDoor
open Go.RowKit Go.Lib Go.BigFrame
namespace TR
open OM TP TM

theorem str_eq (a b : List UInt8) : ((⟨a.toArray⟩ : ByteArray).toList == (⟨b.toArray⟩ : ByteArray).toList) = decide (a = b) := by
  rw [Lib.toList_data, Lib.toList_data, Bool.eq_iff_iff]
  simp
theorem byte_at (p : ByteArray) (i : Nat) (h : i < p.size) (z : Int) (hz : z = i) :
    ∃ x : Nat, (p.data.toList.getD i 0).toNat = x ∧ (x : Int) < 256 ∧ ∀ W, (Instr.index 9 (.string p) (.int .i64 z)).run Tryz.prog W = .ok (.int .u8 (x : Nat)) W := by
  subst hz
  refine ⟨_, rfl, ?_, fun W => ?_⟩
  · have := (p.data.toList.getD i 0).toNat_lt
    omega
  · have h0 : 0 ≤ (i : Int) ∧ (i : Int) < (p.size : Int) := by omega
    rw [run_index_string W 9 p .i64 (i : Int) Tryz.underlying9, dif_pos h0]
    have e := Lib.data_getElem? p i h
    rw [List.getD_eq_getElem?_getD, e]
    rfl
theorem contains_take {l : List UInt8} {k : Nat} {x : UInt8} (h : l[k]? = some x) (h0 : (l.take k).contains 0 = false) : (l.take (k + 1)).contains 0 = decide (x = 0) := by
  rw [List.take_add_one, h, Option.toList_some, List.contains_append, h0, Bool.false_or]
  simp [eq_comm]
set_option maxRecDepth 100000 in
set_option maxHeartbeats 3200000 in
theorem rright_any (n : Nd) (w : World) (hd : n.data.length ≤ maxLen) : Calls Tryz.prog 71 #[ndVal n] w fun r w' => r = .returned (.bool (rightB n)) ∧ Below w.heap.size w w' := by
  obtain ⟨p, k, d, m⟩ := n
  unfold ndVal txt
  simp only at hd ⊢
  obtain ⟨S, hS⟩ : ∃ S : ByteArray, ⟨d.toArray⟩ = S := ⟨_, rfl⟩
  have hSd : S.data.toList = d := by rw [← hS]
  obtain ⟨dl, hdl⟩ : ∃ dl, d.length = dl := ⟨_, rfl⟩
  have hSz : S.size = dl := by rw [Lib.size_eq, hSd]; exact hdl
  unfold maxLen at hd
  rw [hS]
  have B0 : Hid (Below w.heap.size w (w.alloc (.cells #[.string ⟨p.toArray⟩, .int .i64 k, .string S, .int .i64 m] 45))) := Lib.hid ((Below.refl _ _).alloc (Nat.le_refl _) _)
  by_cases h1 : k = 1
  · have k1 : (k == 1) = true := by simp [h1]
    have HR : Hid (rightB ⟨p, k, d, m⟩ = (decide (dl ≤ 65536) && decide (0 ≤ m) && decide (m ≤ 511))) := Lib.hid (by unfold rightB; simp only; rw [if_pos h1, hdl])
    clear hS hSd hdl hd h1
    by_cases a1 : dl ≤ 65536
    · have b1 : (dl : Int) ≤ 65536 := by omega
      by_cases a2 : 0 ≤ m
      · by_cases a3 : m ≤ 511
        · have HB : Hid (rightB ⟨p, k, d, m⟩ = true) := Lib.hid (by rw [HR.out, decide_eq_true a1, decide_eq_true a2, decide_eq_true a3]; rfl)
          clear a1
          go_enter Tryz.func71, Tryz.ntmps71
          repeat (first | go_skip | go_guarded | go_step | go_upon)
          go_ret
          exact ⟨by rw [HB.out]; rfl, B0.out⟩
        · have HB : Hid (rightB ⟨p, k, d, m⟩ = false) := Lib.hid (by rw [HR.out, decide_eq_false a3]; simp)
          clear a1
          go_enter Tryz.func71, Tryz.ntmps71
          repeat (first | go_skip | go_guarded | go_step | go_upon)
          go_ret
          exact ⟨by rw [HB.out]; rfl, B0.out⟩
      · have HB : Hid (rightB ⟨p, k, d, m⟩ = false) := Lib.hid (by rw [HR.out, decide_eq_false a2]; simp)
        clear a1
        go_enter Tryz.func71, Tryz.ntmps71
        repeat (first | go_skip | go_guarded | go_step | go_upon)
        go_ret
        exact ⟨by rw [HB.out]; rfl, B0.out⟩
    · have b1 : ¬ (dl : Int) ≤ 65536 := by omega
      have HB : Hid (rightB ⟨p, k, d, m⟩ = false) := Lib.hid (by rw [HR.out, decide_eq_false a1]; simp)
      clear a1
      go_enter Tryz.func71, Tryz.ntmps71
      repeat (first | go_skip | go_guarded | go_step | go_upon)
      go_ret
      exact ⟨by rw [HB.out]; rfl, B0.out⟩
  · have k1 : (k == 1) = false := by simp [h1]
    by_cases h2 : k = 2
    · have k2 : (k == 2) = true := by simp [h2]
      have HR : Hid (rightB ⟨p, k, d, m⟩ = (decide (d = []) && decide (m = 0))) := Lib.hid (by unfold rightB; simp only; rw [if_neg h1, if_pos h2])
      clear hdl hd h1 h2 hSz
      by_cases a1 : d = []
      · have b1 : S.toList.isEmpty = true := by rw [Lib.toList_data, hSd, a1]; rfl
        by_cases a2 : m = 0
        · have b2 : (m == 0) = true := by simp [a2]
          have HB : Hid (rightB ⟨p, k, d, m⟩ = true) := Lib.hid (by rw [HR.out, decide_eq_true a1, decide_eq_true a2]; rfl)
          clear a1 a2 hS hSd
          go_enter Tryz.func71, Tryz.ntmps71
          repeat (first | go_skip | go_guarded | go_step | go_upon)
          go_ret
          exact ⟨by rw [HB.out]; rfl, B0.out⟩
        · have b2 : (m == 0) = false := by simp [a2]
          have HB : Hid (rightB ⟨p, k, d, m⟩ = false) := Lib.hid (by rw [HR.out, decide_eq_false a2]; simp)
          clear a1 a2 hS hSd
          go_enter Tryz.func71, Tryz.ntmps71
          repeat (first | go_skip | go_guarded | go_step | go_upon)
          go_ret
          exact ⟨by rw [HB.out]; rfl, B0.out⟩
      · have b1 : S.toList.isEmpty = false := by rw [Lib.toList_data, hSd]; simp [a1]
        have HB : Hid (rightB ⟨p, k, d, m⟩ = false) := Lib.hid (by rw [HR.out, decide_eq_false a1]; simp)
        clear a1 hS hSd
        go_enter Tryz.func71, Tryz.ntmps71
        repeat (first | go_skip | go_guarded | go_step | go_upon)
        go_ret
        exact ⟨by rw [HB.out]; rfl, B0.out⟩
    · have k2 : (k == 2) = false := by simp [h2]
      by_cases h3 : k = 3
      · have k3 : (k == 3) = true := by simp [h3]
        have HR : Hid (rightB ⟨p, k, d, m⟩ = (!(d.contains 0) && decide (1 ≤ dl) && decide (dl ≤ 400) && decide (m = 0))) := Lib.hid (by unfold rightB; simp only; rw [if_neg h1, if_neg h2, if_pos h3, hdl])
        have HSd := Lib.hid hSd
        have HDl := Lib.hid hdl
        have hdz : (dl : Int) ≤ 9223372036854775807 := by omega
        clear hS hSd hdl h1 h2 h3 hd
        go_enter Tryz.func71, Tryz.ntmps71
        repeat (first | go_skip | go_guarded | go_step | go_upon)
        go_loop [3] (fun s3 => ∃ j : Nat, s3 = .int .i64 j ∧ j ≤ dl ∧ (d.take j).contains 0 = false) (fun s3 => dl - (Go.RowKit.intOf s3).toNat)
        case atStart => exact ⟨0, rfl, Nat.zero_le _, rfl⟩
        case round =>
          obtain ⟨j, rfl, hj, hc⟩ := hrel
          have HC := Lib.hid hc
          clear hc
          by_cases hlt : j < dl
          · have hjz : (j : Int) < dl := by omega
            obtain ⟨x, hx⟩ : ∃ x, d[j]? = some x := ⟨d[j]'(by rw [HDl.out]; exact hlt), List.getElem?_eq_getElem _⟩
            obtain ⟨xn, hxn, hxl, i0⟩ := byte_at S j (by omega) j rfl
            rw [HSd.out, List.getD_eq_getElem?_getD, hx, Option.getD_some] at hxn
            by_cases h0 : x = 0
            · have hx0 : ((xn : Int) == 0) = true := by rw [← hxn, h0]; rfl
              have HB : Hid (rightB ⟨p, k, d, m⟩ = false) := Lib.hid (by
                have h4 : d.contains 0 = true := by
                  have := List.mem_of_getElem? hx
                  rw [h0] at this
                  simpa using this
                rw [HR.out, h4]
                simp)
              clear hx hxn h0
              repeat (first | go_skip | go_guarded | go_step | go_upon)
              go_ret
              exact ⟨by rw [HB.out]; rfl, B0.out⟩
            · have hx0 : ((xn : Int) == 0) = false := by
                simp only [beq_eq_false_iff_ne]
                intro e
                exact h0 (UInt8.toNat_inj.1 (by rw [hxn]; show xn = 0; omega))
              have HC2 : Hid ((d.take (j + 1)).contains 0 = false) := Lib.hid (by rw [contains_take hx HC.out]; simp [h0])
              clear hx hxn h0
              repeat (first | go_skip | go_guarded | go_step | go_upon)
              exact ⟨⟨j + 1, by go_num, by omega, HC2.out⟩, by simp [Go.RowKit.intOf]; omega⟩
          · have hjz : ¬ (j : Int) < dl := by omega
            have HR2 : Hid (rightB ⟨p, k, d, m⟩ = (decide (1 ≤ dl) && decide (dl ≤ 400) && decide (m = 0))) := Lib.hid (by
              have := HC.out
              rw [List.take_of_length_le (by rw [HDl.out]; omega)] at this
              rw [HR.out, this]
              simp)
            clear HR
            by_cases a1 : 1 ≤ dl
            · have b1 : (1 : Int) ≤ dl := by omega
              by_cases a2 : dl ≤ 400
              · have b2 : (dl : Int) ≤ 400 := by omega
                by_cases a3 : m = 0
                · have b3 : (m == 0) = true := by simp [a3]
                  have HB : Hid (rightB ⟨p, k, d, m⟩ = true) := Lib.hid (by rw [HR2.out, decide_eq_true a1, decide_eq_true a2, decide_eq_true a3]; rfl)
                  clear a1 a2 a3 hlt
                  repeat (first | go_skip | go_guarded | go_step | go_upon)
                  go_ret
                  exact ⟨by rw [HB.out]; rfl, B0.out⟩
                · have b3 : (m == 0) = false := by simp [a3]
                  have HB : Hid (rightB ⟨p, k, d, m⟩ = false) := Lib.hid (by rw [HR2.out, decide_eq_false a3]; simp)
                  clear a1 a2 a3 hlt
                  repeat (first | go_skip | go_guarded | go_step | go_upon)
                  go_ret
                  exact ⟨by rw [HB.out]; rfl, B0.out⟩
              · have b2 : ¬ (dl : Int) ≤ 400 := by omega
                have HB : Hid (rightB ⟨p, k, d, m⟩ = false) := Lib.hid (by rw [HR2.out, decide_eq_false a2]; simp)
                clear a1 a2 hlt
                repeat (first | go_skip | go_guarded | go_step | go_upon)
                go_ret
                exact ⟨by rw [HB.out]; rfl, B0.out⟩
            · have b1 : ¬ (1 : Int) ≤ dl := by omega
              have HB : Hid (rightB ⟨p, k, d, m⟩ = false) := Lib.hid (by rw [HR2.out, decide_eq_false a1]; simp)
              clear a1 hlt
              repeat (first | go_skip | go_guarded | go_step | go_upon)
              go_ret
              exact ⟨by rw [HB.out]; rfl, B0.out⟩
      · have k3 : (k == 3) = false := by simp [h3]
        have HB : Hid (rightB ⟨p, k, d, m⟩ = false) := Lib.hid (by unfold rightB; simp only; rw [if_neg h1, if_neg h2, if_neg h3])
        clear hS hSd hdl hd h1 h2 h3
        go_enter Tryz.func71, Tryz.ntmps71
        repeat (first | go_skip | go_guarded | go_step | go_upon)
        go_ret
        exact ⟨by rw [HB.out]; rfl, B0.out⟩
end TR
end Go.Proofs.YtfbhbadcgecgmaaGreatDoor
