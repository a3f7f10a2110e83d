/- Layer 16: a sender's Way, Ack, Left. -/
import Derived.Test.YtdkfoakmjeealaaQMxOut
set_option linter.all false
set_option maxRecDepth 100000
set_option maxHeartbeats 25600000
namespace Go.Proofs.Ytdkfoakmjeealaa
open Go.RowKit Go.Lib Go.BigFrame
namespace MX
open OM FP

def callAt (cs : List Cl) (z : Int) : Option Cl := if 0 ≤ z then cs[z.toNat]? else none
theorem callAt_none {cs : List Cl} {z : Int} (h : callAt cs z = none) : z < 0 ∨ (cs.length : Int) ≤ z := by
  unfold callAt at h
  split at h
  · rename_i h0
    have := List.getElem?_eq_none_iff.1 h
    omega
  · omega
theorem callAt_some {cs : List Cl} {z : Int} {c : Cl} (h : callAt cs z = some c) : ∃ i : Nat, z = i ∧ cs[i]? = some c := by
  unfold callAt at h
  split at h
  · rename_i h0
    exact ⟨z.toNat, by omega, h⟩
  · cases h
def wayL (cs : List Cl) (z : Int) : Nat := (callAt cs z).elim 0 Cl.way
set_option maxRecDepth 100000 in
set_option maxHeartbeats 1600000 in
theorem Way_any (b : Nat) (W S : Int) (cs : List Cl) (v : Value) (z : Int) (w : World) (h : OutA b W S cs v w) (hok : ∀ c ∈ cs, c.Ok) :
    Calls Try.prog 11 #[ptr b, .int .i64 z] w fun r w' => r = .returned (.int .i64 (wayL cs z : Nat)) ∧ Below w.heap.size w w' := by
  cases hc : callAt cs z with
  | none =>
    have CN := Lib.hid (callG_no b W S cs v z w h (callAt_none hc))
    have hw : wayL cs z = 0 := by unfold wayL; rw [hc]; rfl
    rw [hw]
    clear h hok hc hw
    go_enter Try.func11, Try.ntmps11
    repeat (first | (go_at_call 31; refine CN.out.mono ?_; rintro r w1 ⟨rfl, rfl⟩; simp only []) | go_skip | go_guarded | go_step | go_upon)
    go_ret
    exact ⟨rfl, Below.refl _ _⟩
  | some c =>
    obtain ⟨i, rfl, hi⟩ := callAt_some hc
    obtain ⟨g, k, cur, rfl, hr, ht, hm, hne, q0, q1, q2, q3⟩ := h.at hi
    have CA := Lib.hid (callG_at b W S cs g k i w h (List.getElem?_eq_some_iff.1 hi).1)
    have hcm := hok c (List.mem_of_getElem? hi)
    have CW := Lib.hid (way_any g (i * 4) c.sent c.acked w ((row_cell hr).trans q0) ((row_cell hr).trans q3) hcm.a (by have := hcm.s; have := hcm.t; omega))
    have hw : wayL cs (i : Nat) = c.sent - c.acked := by unfold wayL; rw [hc]; rfl
    rw [hw]
    obtain ⟨m, hmm⟩ : ∃ m, c.sent - c.acked = m := ⟨_, rfl⟩
    rw [hmm] at CW ⊢
    clear h hok hc hw hr ht hm hne q0 q1 q2 q3 hcm hmm
    go_enter Try.func11, Try.ntmps11
    repeat (first | (go_at_call 31; refine CA.out.mono ?_; rintro r w1 ⟨rfl, rfl⟩; simp only []) | (go_at_call 32; refine CW.out.mono ?_; rintro r w2 ⟨rfl, hb⟩; simp only []; have HB := Lib.hid hb; clear hb) | go_skip | go_guarded | go_step | go_upon)
    go_ret
    exact ⟨rfl, HB.out⟩
/-- What an ack leaves. -/
theorem OutA.acked {b : Nat} {W S : Int} {cs : List Cl} {w : World} {g k i n : Nat} {c : Cl} (h : OutA b W S cs (.slice (some ⟨g, 0, none⟩) cs.length k) w) (hc : cs[i]? = some c) :
    OutA b W S (cs.set i (ackC c n)) (.slice (some ⟨g, 0, none⟩) cs.length k) (w.setCell ⟨g, i * 4 + 3, none⟩ (.int .i64 (n : Nat))) := by
  have hi := (List.getElem?_eq_some_iff.1 hc).1
  obtain ⟨g', k', cur, e, hr, ht, hm, hne, -⟩ := h.at hc
  injection e with e1 _ e3
  injection e1 with e1
  injection e1 with e1 _ _
  subst e1 e3
  have hA : ((cs.take i).flatMap goC).length = i * 4 := by rw [rows_len goC_len, List.length_take, Nat.min_eq_left (by omega)]
  refine ⟨(heap_set_ne (Ne.symm hne)).trans h.row, ?_⟩
  rw [List.length_set]
  refine own_turn h.own hr (row_set hr _) (by simp) (by unfold gosC; rw [rows_len goC_len, rows_len goC_len, List.length_set]) ?_
  rw [Array.toList_setIfInBounds, List.take_set, ht]
  unfold gosC
  rw [rows_mid hc, rows_put _ hi, set_mid hA (by show 3 < 4; decide)]
  rfl
set_option maxRecDepth 100000 in
set_option maxHeartbeats 3200000 in
theorem Ack_any (b : Nat) (W S : Int) (cs : List Cl) (v : Value) (z n : Int) (w : World) (h : OutA b W S cs v w) :
    Calls Try.prog 10 #[ptr b, .int .i64 z, .int .i64 n] w fun r w' =>
      match ackOk cs z n with
      | none => r = .returned (.int .i64 160) ∧ w' = w
      | some c => r = .returned (.int .i64 0) ∧ OutA b W S (cs.set z.toNat (ackC c n.toNat)) v w' ∧ Out (mo b v) w w' := by
  cases hc : callAt cs z with
  | none =>
    have CN := Lib.hid (callG_no b W S cs v z w h (callAt_none hc))
    have hw : ackOk cs z n = none := by
      unfold callAt at hc
      unfold ackOk
      split at hc
      · rename_i h0; rw [if_pos h0, hc]
      · rename_i h0; rw [if_neg h0]
    rw [hw]
    clear h hc hw
    go_enter Try.func10, Try.ntmps10
    repeat (first | (go_at_call 31; refine CN.out.mono ?_; rintro r w1 ⟨rfl, rfl⟩; simp only []) | go_skip | go_guarded | go_step | go_upon)
    go_ret
    exact ⟨rfl, rfl⟩
  | some c =>
    obtain ⟨i, rfl, hi⟩ := callAt_some hc
    obtain ⟨g, k, cur, rfl, hr, ht, hm, hne, q0, q1, q2, q3⟩ := h.at hi
    have CA := Lib.hid (callG_at b W S cs g k i w h (List.getElem?_eq_some_iff.1 hi).1)
    have c0 := (row_cell hr).trans q0
    have c3 := (row_cell hr).trans q3
    have f3 := row_frz hr (i * 4 + 3)
    have hw : ackOk cs (i : Nat) n = if (c.acked : Int) ≤ n ∧ n ≤ c.sent then some c else none := by
      unfold ackOk
      rw [if_pos (by omega)]
      simp only [Int.toNat_natCast, hi]
    have HK : Hid (∀ m : Nat, OutA b W S (cs.set i (ackC c m)) (.slice (some ⟨g, 0, none⟩) cs.length k) (w.setCell ⟨g, i * 4 + 3, none⟩ (.int .i64 (m : Nat))) ∧ Out (mo b (.slice (some ⟨g, 0, none⟩) cs.length k)) w (w.setCell ⟨g, i * 4 + 3, none⟩ (.int .i64 (m : Nat)))) := Lib.hid (fun m => ⟨h.acked hi, (Out.refl _ w).setCell (p := ⟨g, i * 4 + 3, none⟩) (fun _ => .inr rfl) _⟩)
    obtain ⟨s, hs⟩ : ∃ s, c.sent = s := ⟨_, rfl⟩
    obtain ⟨a, ha⟩ : ∃ a, c.acked = a := ⟨_, rfl⟩
    rw [hs, ha] at hw
    rw [hs] at c0
    rw [ha] at c3
    rw [hw]
    clear h hc hw hr ht hm hne q0 q1 q2 q3 hi hs ha
    by_cases h1 : n < (a : Int)
    · rw [if_neg (by omega)]
      go_enter Try.func10, Try.ntmps10
      repeat (first | (go_at_call 31; refine CA.out.mono ?_; rintro r w1 ⟨rfl, rfl⟩; simp only []) | go_skip | go_guarded | go_step | go_upon)
      go_ret
      exact ⟨rfl, rfl⟩
    · by_cases h2 : (s : Int) < n
      · rw [if_neg (by omega)]
        go_enter Try.func10, Try.ntmps10
        repeat (first | (go_at_call 31; refine CA.out.mono ?_; rintro r w1 ⟨rfl, rfl⟩; simp only []) | go_skip | go_guarded | go_step | go_upon)
        go_ret
        exact ⟨rfl, rfl⟩
      · rw [if_pos (by omega)]
        obtain ⟨m, rfl⟩ : ∃ m : Nat, n = m := ⟨n.toNat, by omega⟩
        go_enter Try.func10, Try.ntmps10
        repeat (first | (go_at_call 31; refine CA.out.mono ?_; rintro r w1 ⟨rfl, rfl⟩; simp only []) | go_skip | go_guarded | go_step | go_upon)
        go_ret
        simp only [Int.toNat_natCast]
        exact ⟨rfl, HK.out m⟩
set_option maxRecDepth 100000 in
set_option maxHeartbeats 3200000 in
theorem Left_any (b : Nat) (W S : Int) (cs : List Cl) (v : Value) (w : World) (h : OutA b W S cs v w) :
    Calls Try.prog 12 #[ptr b] w fun r w' => r = .returned (.int .i64 (leftL cs : Nat)) ∧ w' = w := by
  obtain ⟨ao, k, rfl, -⟩ := owns_view h.own
  have c0 := (row_cell (j := 0) h.row).trans rfl
  have hnm := owns_len h.own
  obtain ⟨n, hn⟩ : ∃ n, cs.length = n := ⟨_, rfl⟩
  have HC := Lib.hid hn
  have H := Lib.hid h
  have HL : Hid (leftL cs = leftTo cs n) := Lib.hid (by unfold leftL; rw [hn])
  rw [hn] at c0 hnm
  rw [HL.out]
  unfold maxLen at hnm
  clear h hn
  go_enter Try.func12, Try.ntmps12
  repeat (first | go_skip | go_guarded | go_step | go_upon)
  go_loopw [3, 4, 13, 14, 15, 16, 17, 18, 19, 20, 21, 22, 23, 24, 25, 26] (fun s3 _ s13 _ _ _ _ _ _ _ _ _ _ _ _ _ wr => ∃ j : Nat, s13 = .int .i64 j ∧ s3 = .int .i64 (leftTo cs j : Nat) ∧ j ≤ n ∧ wr = w) (fun _ _ s13 _ _ _ _ _ _ _ _ _ _ _ _ _ _ => n - (Go.RowKit.intOf s13).toNat)
  case atStart => exact ⟨0, rfl, rfl, Nat.zero_le _, rfl⟩
  case round =>
    obtain ⟨j, rfl, rfl, hj, rfl⟩ := hrel
    have hle := left_le cs j
    by_cases hlt : j < n
    · have hjz : (j : Int) < n := by omega
      obtain ⟨c, hc⟩ : ∃ c, cs[j]? = some c := ⟨cs[j]'(by rw [HC.out]; exact hlt), List.getElem?_eq_getElem _⟩
      obtain ⟨g, k', cur, e, hr, -, -, -, -, q1, -, -⟩ := H.out.at hc
      injection e with e1 _ e3
      subst e1 e3
      have CW := Lib.hid (waits_any g (j * 4) c.ended wr ((row_cell hr).trans q1))
      have HS := Lib.hid (left_succ hc)
      cases hce : c.ended with
      | true =>
        rw [hce] at CW HS
        have hs : leftTo cs (j + 1) = leftTo cs j := HS.out
        clear hc hr q1
        repeat (first | (go_at_call 33; refine CW.out.mono ?_; rintro r w1 ⟨rfl, rfl⟩; simp only []) | go_skip | go_guarded | go_step | go_upon)
        exact ⟨⟨j + 1, by go_num, by rw [hs], by omega, trivial⟩, by simp [Go.RowKit.intOf]; omega⟩
      | false =>
        rw [hce] at CW HS
        have hs : leftTo cs (j + 1) = leftTo cs j + 1 := HS.out
        have hlz : (leftTo cs j : Int) ≤ j := by omega
        clear hc hr q1
        repeat (first | (go_at_call 33; refine CW.out.mono ?_; rintro r w1 ⟨rfl, rfl⟩; simp only []) | go_skip | go_guarded | go_step | go_upon)
        exact ⟨⟨j + 1, by go_num, by rw [hs]; go_num, by omega, trivial⟩, by simp [Go.RowKit.intOf]; omega⟩
    · have hjz : ¬ (j : Int) < n := by omega
      obtain rfl : j = n := by omega
      repeat (first | go_skip | go_guarded | go_step | go_upon)
      go_ret
      exact ⟨rfl, rfl⟩
end MX
end Go.Proofs.Ytdkfoakmjeealaa
