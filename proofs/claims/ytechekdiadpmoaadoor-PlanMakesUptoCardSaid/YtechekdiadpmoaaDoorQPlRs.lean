/- Layer 13: the document's Same. -/
import Derived.Test.YtechekdiadpmoaaDoorQPlAw
set_option linter.all false
set_option maxRecDepth 100000
set_option maxHeartbeats 25600000
namespace Go.Proofs.YtechekdiadpmoaaDoor
open Go.RowKit Go.Lib Go.Maps Go.BigFrame
namespace PR
open OM TM PL PM PB

set_option maxRecDepth 100000 in
set_option maxHeartbeats 1600000 in
theorem rsame13_any (ao bo : Option Addr) (ca cb : Nat) (xs ys : List Pi) (w : World) (ha : LayP w ao xs) (hb : LayP w bo ys) (la : xs.length ≤ 1048577) (lb : ys.length ≤ 1048577) :
    Calls Tryd.prog 18 #[.slice ao xs.length ca, .slice bo ys.length cb] w fun r w' => r = .returned (.bool (decide (xs = ys))) ∧ Below w.heap.size w w' := by
  obtain ⟨n, hn⟩ : ∃ n, xs.length = n := ⟨_, rfl⟩
  obtain ⟨m, hm⟩ : ∃ m, ys.length = m := ⟨_, rfl⟩
  have HN := Lib.hid hn
  have HM := Lib.hid hm
  have HA := Lib.hid ha
  have HB := Lib.hid hb
  rw [hn] at la ⊢
  rw [hm] at lb ⊢
  have hnz : (n : Int) ≤ 9223372036854775807 := by omega
  clear ha hb
  by_cases hnm : n = m
  · subst hnm
    clear hn hm la lb
    go_enter Tryd.func18, Tryd.ntmps18
    repeat (first | go_skip | go_guarded | go_step | go_upon)
    go_loopw [5] (fun s5 wr => ∃ k : Nat, s5 = .int .i64 k ∧ k ≤ n ∧ xs.take k = ys.take k ∧ Below w.heap.size w wr) (fun s5 _ => n - (Go.RowKit.intOf s5).toNat)
    case atStart => exact ⟨0, rfl, Nat.zero_le _, rfl, Below.refl _ _⟩
    case round =>
      obtain ⟨k, rfl, hk, ht, hbl⟩ := hrel
      have HT := Lib.hid ht
      have HW := Lib.hid hbl
      have HAr := Lib.hid (HA.out.below hbl)
      have HBr := Lib.hid (HB.out.below hbl)
      clear ht hbl
      by_cases hlt : k < n
      · have hkz : (k : Int) < n := by omega
        obtain ⟨g1, o1, rfl, _, hc1⟩ := HAr.out (by rw [HN.out]; omega)
        obtain ⟨g2, o2, rfl, _, hc2⟩ := HBr.out (by rw [HM.out]; omega)
        obtain ⟨x, hx⟩ : ∃ x, xs[k]? = some x := ⟨xs[k]'(by rw [HN.out]; exact hlt), List.getElem?_eq_getElem _⟩
        obtain ⟨y, hy⟩ : ∃ y, ys[k]? = some y := ⟨ys[k]'(by rw [HM.out]; exact hlt), List.getElem?_eq_getElem _⟩
        obtain ⟨x0, x1⟩ := hc1 k x hx
        obtain ⟨y0, y1⟩ := hc2 k y hy
        have he := fun W => eq_ch x y W
        have HX := Lib.hid hx
        have HY := Lib.hid hy
        obtain ⟨xp, xv⟩ := x
        obtain ⟨yp, yv⟩ := y
        simp only at x0 x1 y0 y1 he
        obtain ⟨S1, e1⟩ : ∃ S, txt xp = .string S := ⟨_, rfl⟩
        obtain ⟨S2, e2⟩ : ∃ S, txt yp = .string S := ⟨_, rfl⟩
        rw [e1, e2] at he
        rw [e1] at x0
        rw [e2] at y0
        have ht1 : Hid (((xp, xv) = (yp, yv)) → xs.take (k + 1) = ys.take (k + 1)) := Lib.hid (fun e => by rw [List.take_add_one, List.take_add_one, HT.out, HX.out, HY.out, e])
        have ht2 : Hid (((xp, xv) ≠ (yp, yv)) → decide (xs = ys) = false) := Lib.hid (fun e => decide_eq_false (fun h => e (by
          have h3 := HX.out
          rw [h, HY.out] at h3
          injection h3 with h3
          exact h3.symm)))
        clear e1 e2 hc1 hc2 hx hy
        by_cases hxy : ((xp, xv) : Pi) = (yp, yv)
        · rw [decide_eq_true hxy] at he
          have H1 := Lib.hid (ht1.out hxy)
          clear hxy ht1 ht2
          repeat (first | go_skip | go_guarded | go_step | go_upon)
          go_quiet (fail)
          rename_i nq
          have W7 : Hid (Below w.heap.size w (wr.drewN nq)) := Lib.hid ⟨HW.out.os, HW.out.tape, HW.out.output, HW.out.size, HW.out.block⟩
          clear x0 x1 y0 y1 he
          generalize wr.drewN nq = w7 at W7 ⊢
          repeat (first | go_skip | go_guarded | go_step | go_upon)
          exact ⟨⟨k + 1, by go_num, by omega, H1.out, W7.out⟩, by simp [Go.RowKit.intOf]; omega⟩
        · rw [decide_eq_false hxy] at he
          have H2 := Lib.hid (ht2.out hxy)
          clear hxy ht1 ht2
          repeat (first | go_skip | go_guarded | go_step | go_upon)
          go_quiet (fail)
          rename_i nq
          have W7 : Hid (Below w.heap.size w (wr.drewN nq)) := Lib.hid ⟨HW.out.os, HW.out.tape, HW.out.output, HW.out.size, HW.out.block⟩
          clear x0 x1 y0 y1 he
          generalize wr.drewN nq = w7 at W7 ⊢
          repeat (first | go_skip | go_guarded | go_step | go_upon)
          go_ret
          exact ⟨by rw [H2.out]; rfl, W7.out⟩
      · obtain rfl : k = n := by omega
        have he : Hid (decide (xs = ys) = true) := Lib.hid (decide_eq_true (by
          have h := HT.out
          rw [List.take_of_length_le (by rw [HN.out]; exact Nat.le_refl _), List.take_of_length_le (by rw [HM.out]; exact Nat.le_refl _)] at h
          exact h))
        repeat (first | go_skip | go_guarded | go_step | go_upon)
        go_ret
        exact ⟨by rw [he.out]; rfl, HW.out⟩
  · have hne : ((n : Int) != (m : Int)) = true := by simp; omega
    have he : Hid (decide (xs = ys) = false) := Lib.hid (decide_eq_false (fun h => hnm (by rw [← hn, ← hm, h])))
    clear hn hm hnm
    go_enter Tryd.func18, Tryd.ntmps18
    repeat (first | go_skip | go_guarded | go_step | go_upon)
    go_ret
    exact ⟨by rw [he.out]; rfl, Below.refl _ _⟩
end PR
end Go.Proofs.YtechekdiadpmoaaDoor
