/- Layer 6: the contracts of the program's rightNode, Check. -/
import Derived.Test.YtmpmmebmhffaeaaGreatDoorQArGo3
import Derived.Test.YtmpmmebmhffaeaaGreatDoorQTreeSl
set_option linter.all false
set_option maxRecDepth 100000
set_option maxHeartbeats 25600000
namespace Go.Proofs.YtmpmmebmhffaeaaGreatDoor
open Go.RowKit Go.Lib Go.BigFrame
namespace TG
open OM TP TM

theorem idx_contains (l : List UInt8) (c : UInt8) : decide (0 ≤ Lib.indexByte l c) = l.contains c := by
  rw [Bool.eq_iff_iff, decide_eq_true_eq, List.contains_iff_mem]
  have hge := Lib.indexByte_ge l c
  constructor
  · intro h
    obtain ⟨o, ho⟩ : ∃ o : Nat, Lib.indexByte l c = o := ⟨_, (Int.toNat_of_nonneg h).symm⟩
    exact List.mem_of_getElem? (Lib.indexByte_some ho).1
  · intro h
    rcases Int.lt_or_le (Lib.indexByte l c) 0 with e | e
    · obtain ⟨k, hk, e2⟩ := List.getElem_of_mem h
      exact absurd (by rw [← e2]; exact List.getElem?_eq_getElem hk) (Lib.indexByte_none (show Lib.indexByte l c = -1 by omega) k)
    · exact e
set_option maxRecDepth 100000 in
set_option maxHeartbeats 3200000 in
theorem right_any (n : Nd) (w : World) (hd : n.data.length ≤ 1048576) : Calls Tryz.prog 36 #[ndVal n] w fun r w' => r = .returned (.bool (rightB n)) ∧ Below w.heap.size w w' := by
  obtain ⟨p, k, d, m⟩ := n
  unfold ndVal txt
  simp only at hd ⊢
  obtain ⟨S, hS⟩ : ∃ S : ByteArray, ⟨d.toArray⟩ = S := ⟨_, rfl⟩
  have hSd : S.data.toList = d := by rw [← hS]
  obtain ⟨dl, hdl⟩ : ∃ dl, d.length = dl := ⟨_, rfl⟩
  have hSz : S.size = dl := by rw [Lib.size_eq, hSd]; exact hdl
  obtain ⟨bc, hbc⟩ : ∃ b, d.contains 0 = b := ⟨_, rfl⟩
  have CC : Hid (∀ W, Calls Tryz.prog 55 #[.string S, .string ⟨#[0]⟩] W fun e w' => e = .returned (.bool bc) ∧ w' = W) := Lib.hid (fun W => by
    have := Tryz.strings_Contains_one S 0 W
    rw [idx_contains, hSd, hbc] at this
    exact this)
  rw [hS]
  have B0 : Hid (Below w.heap.size w (w.alloc (.cells #[.string ⟨p.toArray⟩, .int .i64 k, .string S, .int .i64 m] 40))) := Lib.hid ((Below.refl _ _).alloc (Nat.le_refl _) _)
  by_cases h1 : k = 1
  · have k1 : (k == 1) = true := by simp [h1]
    have HR : Hid (rightB ⟨p, k, d, m⟩ = (decide (dl ≤ 65536) && decide (0 ≤ m) && decide (m ≤ 511))) := Lib.hid (by unfold rightB; simp only; rw [if_pos h1, hdl])
    clear hS hSd hdl hd h1 hbc
    by_cases a1 : dl ≤ 65536
    · have b1 : (dl : Int) ≤ 65536 := by omega
      have b1d : decide ((dl : Int) ≤ 65536) = true := decide_eq_true b1
      by_cases a2 : 0 ≤ m
      · have b2d : decide (0 ≤ m) = true := decide_eq_true a2
        by_cases a3 : m ≤ 511
        · have HB : Hid (rightB ⟨p, k, d, m⟩ = true) := Lib.hid (by rw [HR.out, decide_eq_true a1, decide_eq_true a2, decide_eq_true a3]; rfl)
          clear a1
          go_enter Tryz.func36, Tryz.ntmps36
          repeat (first | go_skip | go_guarded | go_step | go_upon)
          go_ret
          exact ⟨by rw [HB.out]; simp, B0.out⟩
        · have HB : Hid (rightB ⟨p, k, d, m⟩ = false) := Lib.hid (by rw [HR.out, decide_eq_false a3]; simp)
          clear a1
          go_enter Tryz.func36, Tryz.ntmps36
          repeat (first | go_skip | go_guarded | go_step | go_upon)
          go_ret
          exact ⟨by rw [HB.out]; simp, B0.out⟩
      · have b2d : decide (0 ≤ m) = false := decide_eq_false a2
        have HB : Hid (rightB ⟨p, k, d, m⟩ = false) := Lib.hid (by rw [HR.out, decide_eq_false a2]; simp)
        clear a1
        go_enter Tryz.func36, Tryz.ntmps36
        repeat (first | go_skip | go_guarded | go_step | go_upon)
        go_ret
        exact ⟨by rw [HB.out]; rfl, B0.out⟩
    · have b1 : ¬ (dl : Int) ≤ 65536 := by omega
      have b1d : decide ((dl : Int) ≤ 65536) = false := decide_eq_false b1
      have HB : Hid (rightB ⟨p, k, d, m⟩ = false) := Lib.hid (by rw [HR.out, decide_eq_false a1]; simp)
      clear a1
      go_enter Tryz.func36, Tryz.ntmps36
      repeat (first | go_skip | go_guarded | go_step | go_upon)
      go_ret
      exact ⟨by rw [HB.out]; rfl, B0.out⟩
  · have k1 : (k == 1) = false := by simp [h1]
    by_cases h2 : k = 2
    · have k2 : (k == 2) = true := by simp [h2]
      have HR : Hid (rightB ⟨p, k, d, m⟩ = (decide (d = []) && decide (m = 0))) := Lib.hid (by unfold rightB; simp only; rw [if_neg h1, if_pos h2])
      clear hdl hd h1 h2 hSz hbc
      by_cases a1 : d = []
      · have b1 : S.toList.isEmpty = true := by rw [Lib.toList_data, hSd, a1]; rfl
        obtain ⟨b2, hb2⟩ : ∃ b2, (m == 0) = b2 := ⟨_, rfl⟩
        have HB : Hid (rightB ⟨p, k, d, m⟩ = b2) := Lib.hid (by rw [HR.out, decide_eq_true a1, ← hb2, Bool.true_and, Bool.eq_iff_iff]; simp)
        clear a1 hS hSd
        go_enter Tryz.func36, Tryz.ntmps36
        repeat (first | go_skip | go_guarded | go_step | go_upon)
        go_ret
        exact ⟨by rw [HB.out]; rfl, B0.out⟩
      · have b1 : S.toList.isEmpty = false := by rw [Lib.toList_data, hSd]; simp [a1]
        have HB : Hid (rightB ⟨p, k, d, m⟩ = false) := Lib.hid (by rw [HR.out, decide_eq_false a1]; simp)
        clear a1 hS hSd
        go_enter Tryz.func36, Tryz.ntmps36
        repeat (first | go_skip | go_guarded | go_step | go_upon)
        go_ret
        exact ⟨by rw [HB.out]; rfl, B0.out⟩
    · have k2 : (k == 2) = false := by simp [h2]
      by_cases h3 : k = 3
      · have k3 : (k == 3) = true := by simp [h3]
        have HR : Hid (rightB ⟨p, k, d, m⟩ = (!bc && decide (1 ≤ dl) && decide (dl ≤ 400) && decide (m = 0))) := Lib.hid (by unfold rightB; simp only; rw [if_neg h1, if_neg h2, if_pos h3, hdl, hbc])
        have hemp : S.toList.isEmpty = decide (dl = 0) := by rw [Lib.toList_data, hSd, ← hdl, Bool.eq_iff_iff]; simp
        clear hS hSd hdl h1 h2 h3 hd hbc
        by_cases a1 : 1 ≤ dl
        · have b1 : S.toList.isEmpty = false := by rw [hemp, decide_eq_false (by omega)]
          by_cases a2 : dl ≤ 400
          · have b2 : (dl : Int) ≤ 400 := by omega
            have b2d : decide ((dl : Int) ≤ 400) = true := decide_eq_true b2
            cases bc with
            | true =>
              have HB : Hid (rightB ⟨p, k, d, m⟩ = false) := Lib.hid (by rw [HR.out]; simp)
              clear a1 a2 hemp HR
              go_enter Tryz.func36, Tryz.ntmps36
              repeat (first | (go_at_call 55; refine (CC.out _).mono ?_; rintro r w1 ⟨rfl, rfl⟩; simp only []) | go_skip | go_guarded | go_step | go_upon)
              go_ret
              exact ⟨by rw [HB.out]; rfl, B0.out⟩
            | false =>
              obtain ⟨b3, hb3⟩ : ∃ b3, (m == 0) = b3 := ⟨_, rfl⟩
              have HB : Hid (rightB ⟨p, k, d, m⟩ = b3) := Lib.hid (by rw [HR.out, decide_eq_true a1, decide_eq_true a2, ← hb3, Bool.eq_iff_iff]; simp)
              clear a1 a2 hemp HR
              go_enter Tryz.func36, Tryz.ntmps36
              repeat (first | (go_at_call 55; refine (CC.out _).mono ?_; rintro r w1 ⟨rfl, rfl⟩; simp only []) | go_skip | go_guarded | go_step | go_upon)
              go_ret
              exact ⟨by rw [HB.out]; rfl, B0.out⟩
          · have b2 : ¬ (dl : Int) ≤ 400 := by omega
            have b2d : decide ((dl : Int) ≤ 400) = false := decide_eq_false b2
            have HB : Hid (rightB ⟨p, k, d, m⟩ = false) := Lib.hid (by rw [HR.out, decide_eq_false a2]; simp)
            clear a1 a2 hemp HR
            go_enter Tryz.func36, Tryz.ntmps36
            repeat (first | go_skip | go_guarded | go_step | go_upon)
            go_ret
            exact ⟨by rw [HB.out]; rfl, B0.out⟩
        · have b1 : S.toList.isEmpty = true := by rw [hemp, decide_eq_true (by omega)]
          have HB : Hid (rightB ⟨p, k, d, m⟩ = false) := Lib.hid (by rw [HR.out, decide_eq_false a1]; simp)
          clear a1 hemp HR
          go_enter Tryz.func36, Tryz.ntmps36
          repeat (first | go_skip | go_guarded | go_step | go_upon)
          go_ret
          exact ⟨by rw [HB.out]; rfl, B0.out⟩
      · have k3 : (k == 3) = false := by simp [h3]
        have HB : Hid (rightB ⟨p, k, d, m⟩ = false) := Lib.hid (by unfold rightB; simp only; rw [if_neg h1, if_neg h2, if_neg h3])
        clear hS hSd hdl hd h1 h2 h3 hbc
        go_enter Tryz.func36, Tryz.ntmps36
        repeat (first | go_skip | go_guarded | go_step | go_upon)
        go_ret
        exact ⟨by rw [HB.out]; rfl, B0.out⟩
end TG
end Go.Proofs.YtmpmmebmhffaeaaGreatDoor
