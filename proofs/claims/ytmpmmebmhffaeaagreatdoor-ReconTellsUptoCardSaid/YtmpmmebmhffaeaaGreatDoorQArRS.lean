/- Layer 6: the contracts of the document's Same, Right. -/
import Derived.Test.YtmpmmebmhffaeaaGreatDoorQArEq
set_option linter.all false
set_option maxRecDepth 100000
set_option maxHeartbeats 25600000
namespace Go.Proofs.YtmpmmebmhffaeaaGreatDoor
open Go.RowKit Go.Lib Go.BigFrame
namespace TR
open OM TP TM

set_option maxRecDepth 100000 in
set_option maxHeartbeats 1600000 in
theorem rsame_any (ao bo : Option Addr) (ca cb : Nat) (xs ys : List Nd) (w : World) (ha : LayN w ao xs) (hb : LayN w bo ys) (la : xs.length ≤ maxLen) (lb : ys.length ≤ maxLen) :
    Calls Tryz.prog 11 #[.slice ao xs.length ca, .slice bo ys.length cb] w fun r w' => r = .returned (.bool (decide (xs = ys))) ∧ Below w.heap.size w w' := by
  obtain ⟨n, hn⟩ : ∃ n, xs.length = n := ⟨_, rfl⟩
  obtain ⟨m, hm⟩ : ∃ m, ys.length = m := ⟨_, rfl⟩
  have HN := Lib.hid hn
  have HM := Lib.hid hm
  have HA := Lib.hid ha
  have HB := Lib.hid hb
  unfold maxLen at la lb
  rw [hn] at la ⊢
  rw [hm] at lb ⊢
  have hnz : (n : Int) ≤ 9223372036854775807 := by omega
  clear ha hb
  by_cases hnm : n = m
  · subst hnm
    clear hn hm la lb
    go_enter Tryz.func11, Tryz.ntmps11
    repeat (first | go_skip | go_guarded | go_step | go_upon)
    go_loopw [5] (fun s3 wr => ∃ k : Nat, s3 = .int .i64 k ∧ k ≤ n ∧ xs.take k = ys.take k ∧ Below w.heap.size w wr) (fun s3 _ => n - (Go.RowKit.intOf s3).toNat)
    case atStart => exact ⟨0, rfl, Nat.zero_le _, rfl, Below.refl _ _⟩
    case round =>
      obtain ⟨k, rfl, hk, ht, hbl⟩ := hrel
      have HT := Lib.hid ht
      have HW := Lib.hid hbl
      have HAr := Lib.hid (HA.out.below hbl)
      have HBr := Lib.hid (HB.out.below hbl)
      clear ht hbl
      by_cases hlt : k < n
      · have hkz : (k : Int) < n := by omega
        obtain ⟨g1, o1, rfl, _, hc1⟩ := HAr.out (by rw [HN.out]; omega)
        obtain ⟨g2, o2, rfl, _, hc2⟩ := HBr.out (by rw [HM.out]; omega)
        obtain ⟨x, hx⟩ : ∃ x, xs[k]? = some x := ⟨xs[k]'(by rw [HN.out]; exact hlt), List.getElem?_eq_getElem _⟩
        obtain ⟨y, hy⟩ : ∃ y, ys[k]? = some y := ⟨ys[k]'(by rw [HM.out]; exact hlt), List.getElem?_eq_getElem _⟩
        obtain ⟨x0, x1, x2, x3⟩ := hc1 k x hx
        obtain ⟨y0, y1, y2, y3⟩ := hc2 k y hy
        have he := fun W => eq_nd x y W
        unfold ndVal at he
        obtain ⟨xp, hxp⟩ : ∃ v, txt x.path = v := ⟨_, rfl⟩
        obtain ⟨xd, hxd⟩ : ∃ v, txt x.data = v := ⟨_, rfl⟩
        obtain ⟨yp, hyp⟩ : ∃ v, txt y.path = v := ⟨_, rfl⟩
        obtain ⟨yd, hyd⟩ : ∃ v, txt y.data = v := ⟨_, rfl⟩
        obtain ⟨S1, e1⟩ : ∃ S, xp = .string S := ⟨_, hxp.symm⟩
        obtain ⟨S2, e2⟩ : ∃ S, xd = .string S := ⟨_, hxd.symm⟩
        obtain ⟨S3, e3⟩ : ∃ S, yp = .string S := ⟨_, hyp.symm⟩
        obtain ⟨S4, e4⟩ : ∃ S, yd = .string S := ⟨_, hyd.symm⟩
        rw [hxp, hxd, hyp, hyd, e1, e2, e3, e4] at he
        rw [hxp, e1] at x0
        rw [hxd, e2] at x2
        rw [hyp, e3] at y0
        rw [hyd, e4] at y2
        by_cases hxy : x = y
        · have HT2 : Hid (xs.take (k + 1) = ys.take (k + 1)) := Lib.hid (by rw [List.take_add_one, List.take_add_one, HT.out, hx, hy, hxy])
          rw [decide_eq_true hxy] at he
          clear hc1 hc2 hx hy hxy hxp hxd hyp hyd e1 e2 e3 e4
          repeat (first | go_skip | go_guarded | go_step | go_upon)
          go_quiet (fail)
          rename_i nq
          have HW3 : Hid (Below w.heap.size w (wr.drewN nq)) := Lib.hid ⟨HW.out.os, HW.out.tape, HW.out.output, HW.out.size, HW.out.block⟩
          clear x0 x1 x2 x3 y0 y1 y2 y3 he
          generalize wr.drewN nq = w3 at HW3 ⊢
          repeat (first | go_skip | go_guarded | go_step | go_upon)
          exact ⟨⟨k + 1, by go_num, by omega, HT2.out, HW3.out⟩, by simp [Go.RowKit.intOf]; omega⟩
        · have HF : Hid (decide (xs = ys) = false) := Lib.hid (by
            rw [decide_eq_false]
            intro e
            rw [e, hy] at hx
            exact hxy (Option.some.inj hx).symm)
          rw [decide_eq_false hxy] at he
          clear hc1 hc2 hx hy hxy hxp hxd hyp hyd e1 e2 e3 e4
          repeat (first | go_skip | go_guarded | go_step | go_upon)
          go_quiet (fail)
          rename_i nq
          have HW3 : Hid (Below w.heap.size w (wr.drewN nq)) := Lib.hid ⟨HW.out.os, HW.out.tape, HW.out.output, HW.out.size, HW.out.block⟩
          clear x0 x1 x2 x3 y0 y1 y2 y3 he
          generalize wr.drewN nq = w3 at HW3 ⊢
          repeat (first | go_skip | go_guarded | go_step | go_upon)
          go_ret
          exact ⟨by rw [HF.out]; rfl, HW3.out⟩
      · have hkz : ¬ (k : Int) < n := by omega
        have HF : Hid (decide (xs = ys) = true) := Lib.hid (by
          rw [decide_eq_true]
          have := HT.out
          rw [List.take_of_length_le (by rw [HN.out]; omega), List.take_of_length_le (by rw [HM.out]; omega)] at this
          exact this)
        clear hlt
        repeat (first | go_skip | go_guarded | go_step | go_upon)
        go_ret
        exact ⟨by rw [HF.out]; rfl, HW.out⟩
  · have HF : Hid (decide (xs = ys) = false) := Lib.hid (decide_eq_false fun e => hnm (by rw [← hn, ← hm, e]))
    have hb : ((n : Int) == (m : Int)) = false := by simp; omega
    clear hn hm la lb hnm
    go_enter Tryz.func11, Tryz.ntmps11
    repeat (first | go_skip | go_guarded | go_step | go_upon)
    go_ret
    exact ⟨by rw [HF.out]; rfl, Below.refl _ _⟩
end TR
end Go.Proofs.YtmpmmebmhffaeaaGreatDoor
