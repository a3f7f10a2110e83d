/- Layer 12: the document's below, dir, value, trees, Same. -/
import Derived.Test.YtmpmmebmhffaeaaGreatDoorQRcLay
import Derived.Test.YtmpmmebmhffaeaaGreatDoorQRcRA
import Derived.Test.YtmpmmebmhffaeaaGreatDoorQRcN
set_option linter.all false
set_option maxRecDepth 100000
set_option maxHeartbeats 25600000
namespace Go.Proofs.YtmpmmebmhffaeaaGreatDoor
open Go.RowKit Go.Lib Go.Maps Go.BigFrame Go.Sort
namespace RC
open OM TP TM TR TG TW NP

/-- A value's first node is a directory. -/
def dirA : List Nd → Bool
  | [] => false
  | h :: _ => decide (h.kind = 2)
set_option maxRecDepth 100000 in
theorem rdir12_any (ao : Option Addr) (c : Nat) (v : List Nd) (w : World) (h : LayN w ao v) (hl : v.length ≤ 1048576) :
    Calls Tryz.prog 30 #[.slice ao v.length c] w fun r w' => r = .returned (.bool (dirA v)) ∧ Below w.heap.size w w' := by
  cases v with
  | nil =>
    go_enter Tryz.func30, Tryz.ntmps30
    repeat (first | go_skip | go_guarded | go_step | go_upon)
    go_ret
    exact ⟨rfl, Below.refl _ _⟩
  | cons x v =>
    obtain ⟨g, o, rfl, hg, hc⟩ := h (by simp)
    have hx := hc 0 x rfl
    rw [Nat.zero_mul, Nat.add_zero] at hx
    have c1 := hx.k
    obtain ⟨n, hn⟩ : ∃ n, (x :: v).length = n := ⟨_, rfl⟩
    have hn0 : (0 : Int) < n := by rw [← hn]; simp
    rw [hn]
    show Calls _ _ _ _ fun r w' => r = .returned (.bool (decide (x.kind = 2))) ∧ _
    obtain ⟨kk, hkk⟩ : ∃ kk, x.kind = kk := ⟨_, rfl⟩
    rw [hkk] at c1 ⊢
    have hd : decide (kk = 2) = (kk == 2) := by rw [Bool.eq_iff_iff]; simp
    rw [hd]
    clear hd hkk hn hx hc h hl
    go_enter Tryz.func30, Tryz.ntmps30
    repeat (first | go_skip | go_guarded | go_step | go_upon)
    go_ret
    exact ⟨by first | rfl | simp, Below.refl _ _⟩
theorem rbelow_any (p k : List UInt8) (w : World) (hp : p.length ≤ 1048576) (hk : k.length ≤ 1048576) :
    Calls Tryz.prog 33 #[txt p, txt k] w fun r w' => r = .returned (txt (if p = [] then k else p ++ 47 :: k)) ∧ Below w.heap.size w w' := by
  cases p with
  | nil =>
    unfold txt
    go_enter Tryz.func33, Tryz.ntmps33
    repeat (first | go_skip | go_guarded | go_step | go_upon)
    go_ret
    exact ⟨rfl, Below.refl _ _⟩
  | cons x p =>
    rw [if_neg (by simp)]
    unfold txt
    have e : (⟨(x :: p ++ 47 :: k).toArray⟩ : ByteArray) = ⟨(x :: p).toArray⟩ ++ ⟨#[47]⟩ ++ ⟨k.toArray⟩ := by
      apply ByteArray.ext
      simp
    have e2 : (⟨(x :: p ++ 47 :: k).toArray⟩ : ByteArray).size ≤ maxLen := by
      rw [Lib.size_eq]
      show (x :: p ++ 47 :: k).length ≤ _
      rw [List.length_append, List.length_cons]
      simp only [List.length_cons] at hp ⊢
      unfold maxLen
      omega
    rw [e]
    have f1 : ¬ 9223372036854775807 < p.length + 1 + 1 := by simp only [List.length_cons] at hp; omega
    have f2 : ¬ 9223372036854775807 < p.length + 1 + 1 + k.length := by simp only [List.length_cons] at hp; omega
    clear hp hk e e2
    go_enter Tryz.func33, Tryz.ntmps33
    repeat (first | go_skip | go_guarded | go_step | go_upon)
    go_ret
    exact ⟨by first | rfl | simp, Below.refl _ _⟩
theorem rvalue_any (ao : Option Addr) (cap : Nat) (ts : List Nd) (p : List UInt8) (w : World) (h : LayN w ao ts) (hs : SmallG ts) (hl : ts.length ≤ maxLen) (hp : p.length ≤ 1048576) (hno : ao = none → cap = 0) :
    Calls Tryz.prog 29 #[.slice ao ts.length cap, txt p] w (AtPost (atL ts p) w) := by
  have CA := Lib.hid (rat_any ao cap ts p w h hs hl hp hno)
  obtain ⟨n, hn⟩ : ∃ n, ts.length = n := ⟨_, rfl⟩
  rw [hn] at CA ⊢
  unfold txt at CA ⊢
  clear h hs hl hp hno hn
  go_enter Tryz.func29, Tryz.ntmps29
  repeat (first | go_skip | go_guarded | go_step | go_upon)
  refine CA.out.mono ?_
  rintro r w1 ⟨v, rfl, ho, hb⟩
  simp only []
  have HO := Lib.hid ho
  have HB := Lib.hid hb
  obtain ⟨a1, c1, rfl, -⟩ := lay_own ho
  clear ho hb
  repeat (first | go_skip | go_guarded | go_step | go_upon)
  go_ret
  exact ⟨_, rfl, HO.out, HB.out⟩
set_option maxRecDepth 100000 in
set_option maxHeartbeats 1600000 in
theorem rsame12_any (ao bo : Option Addr) (ca cb : Nat) (xs ys : List It) (w : World) (ha : LayI w ao xs) (hb : LayI w bo ys) (la : xs.length ≤ 1048577) (lb : ys.length ≤ 1048577) :
    Calls Tryz.prog 10 #[.slice ao xs.length ca, .slice bo ys.length cb] w fun r w' => r = .returned (.bool (decide (xs = ys))) ∧ Below w.heap.size w w' := by
  obtain ⟨n, hn⟩ : ∃ n, xs.length = n := ⟨_, rfl⟩
  obtain ⟨m, hm⟩ : ∃ m, ys.length = m := ⟨_, rfl⟩
  have HN := Lib.hid hn
  have HM := Lib.hid hm
  have HA := Lib.hid ha
  have HB := Lib.hid hb
  rw [hn] at la ⊢
  rw [hm] at lb ⊢
  have hnz : (n : Int) ≤ 9223372036854775807 := by omega
  clear ha hb
  by_cases hnm : n = m
  · subst hnm
    clear hn hm la lb
    go_enter Tryz.func10, Tryz.ntmps10
    repeat (first | go_skip | go_guarded | go_step | go_upon)
    go_loopw [5] (fun s5 wr => ∃ k : Nat, s5 = .int .i64 k ∧ k ≤ n ∧ xs.take k = ys.take k ∧ Below w.heap.size w wr) (fun s5 _ => n - (Go.RowKit.intOf s5).toNat)
    case atStart => exact ⟨0, rfl, Nat.zero_le _, rfl, Below.refl _ _⟩
    case round =>
      obtain ⟨k, rfl, hk, ht, hbl⟩ := hrel
      have HT := Lib.hid ht
      have HW := Lib.hid hbl
      have HAr := Lib.hid (HA.out.below hbl)
      have HBr := Lib.hid (HB.out.below hbl)
      clear ht hbl
      by_cases hlt : k < n
      · have hkz : (k : Int) < n := by omega
        obtain ⟨g1, rfl, _, hc1⟩ := HAr.out (by rw [HN.out]; omega)
        obtain ⟨g2, rfl, _, hc2⟩ := HBr.out (by rw [HM.out]; omega)
        obtain ⟨x, hx⟩ : ∃ x, xs[k]? = some x := ⟨xs[k]'(by rw [HN.out]; exact hlt), List.getElem?_eq_getElem _⟩
        obtain ⟨y, hy⟩ : ∃ y, ys[k]? = some y := ⟨ys[k]'(by rw [HM.out]; exact hlt), List.getElem?_eq_getElem _⟩
        obtain ⟨x0, x1⟩ := hc1 k x hx
        obtain ⟨y0, y1⟩ := hc2 k y hy
        have he := fun W => eq_it x y W
        have HX := Lib.hid hx
        have HY := Lib.hid hy
        obtain ⟨xp, xv⟩ := x
        obtain ⟨yp, yv⟩ := y
        simp only at x0 x1 y0 y1 he
        obtain ⟨S1, e1⟩ : ∃ S, txt xp = .string S := ⟨_, rfl⟩
        obtain ⟨S2, e2⟩ : ∃ S, txt yp = .string S := ⟨_, rfl⟩
        rw [e1, e2] at he
        rw [e1] at x0
        rw [e2] at y0
        have ht1 : Hid (((xp, xv) = (yp, yv)) → xs.take (k + 1) = ys.take (k + 1)) := Lib.hid (fun e => by rw [List.take_add_one, List.take_add_one, HT.out, HX.out, HY.out, e])
        have ht2 : Hid (((xp, xv) ≠ (yp, yv)) → decide (xs = ys) = false) := Lib.hid (fun e => decide_eq_false (fun h => e (by
          have h3 := HX.out
          rw [h, HY.out] at h3
          injection h3 with h3
          exact h3.symm)))
        clear e1 e2 hc1 hc2 hx hy
        by_cases hxy : ((xp, xv) : It) = (yp, yv)
        · rw [decide_eq_true hxy] at he
          have H1 := Lib.hid (ht1.out hxy)
          clear hxy ht1 ht2
          repeat (first | go_skip | go_guarded | go_step | go_upon)
          go_quiet (fail)
          rename_i nq
          have W7 : Hid (Below w.heap.size w (wr.drewN nq)) := Lib.hid ⟨HW.out.os, HW.out.tape, HW.out.output, HW.out.size, HW.out.block⟩
          clear x0 x1 y0 y1 he
          generalize wr.drewN nq = w7 at W7 ⊢
          repeat (first | go_skip | go_guarded | go_step | go_upon)
          exact ⟨⟨k + 1, by go_num, by omega, H1.out, W7.out⟩, by simp [Go.RowKit.intOf]; omega⟩
        · rw [decide_eq_false hxy] at he
          have H2 := Lib.hid (ht2.out hxy)
          clear hxy ht1 ht2
          repeat (first | go_skip | go_guarded | go_step | go_upon)
          go_quiet (fail)
          rename_i nq
          have W7 : Hid (Below w.heap.size w (wr.drewN nq)) := Lib.hid ⟨HW.out.os, HW.out.tape, HW.out.output, HW.out.size, HW.out.block⟩
          clear x0 x1 y0 y1 he
          generalize wr.drewN nq = w7 at W7 ⊢
          repeat (first | go_skip | go_guarded | go_step | go_upon)
          go_ret
          exact ⟨by rw [H2.out]; rfl, W7.out⟩
      · obtain rfl : k = n := by omega
        have he : Hid (decide (xs = ys) = true) := Lib.hid (decide_eq_true (by
          have h := HT.out
          rw [List.take_of_length_le (by rw [HN.out]; exact Nat.le_refl _), List.take_of_length_le (by rw [HM.out]; exact Nat.le_refl _)] at h
          exact h))
        repeat (first | go_skip | go_guarded | go_step | go_upon)
        go_ret
        exact ⟨by rw [he.out]; rfl, HW.out⟩
  · have hne : ((n : Int) != (m : Int)) = true := by simp; omega
    have he : Hid (decide (xs = ys) = false) := Lib.hid (decide_eq_false (fun h => hnm (by rw [← hn, ← hm, h])))
    clear hn hm hnm
    go_enter Tryz.func10, Tryz.ntmps10
    repeat (first | go_skip | go_guarded | go_step | go_upon)
    go_ret
    exact ⟨by rw [he.out]; rfl, Below.refl _ _⟩
end RC
end Go.Proofs.YtmpmmebmhffaeaaGreatDoor
