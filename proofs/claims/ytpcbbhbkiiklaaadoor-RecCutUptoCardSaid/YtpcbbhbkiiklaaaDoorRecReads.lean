/- Layer 5: the walk of RecReads. -/
import Derived.Test.YtpcbbhbkiiklaaaDoorRecAw
namespace Go.Proofs.YtpcbbhbkiiklaaaDoor
open Go.RowKit Go.Lib Go.BigFrame
namespace RF
open HP HS RP OM RQ HR
open HQ (Env crc_any)

theorem AllPost.out {l : List UInt8} {w w' : World} {r : Ending} (h : AllPost l w r w') {M : List (List UInt8)} {K E : Nat} (hA : allL l = (M, K, E)) :
    ∃ ao c, r = .returned (.tuple #[.slice ao M.length c, .int .i64 (K : Nat), .int .i64 (E : Nat)]) ∧ Lay w' ao M ∧ Below w.heap.size w w' := by
  obtain ⟨v, rfl, ho, hb⟩ := h
  rw [hA] at ho
  obtain ⟨ao, c, rfl, hl⟩ := lay_of ho
  exact ⟨ao, c, by rw [hA], hl, hb⟩
theorem str_same (T : ByteArray) : (T.toList == T.toList) = true := by simp
theorem crc_of : CrcOf := fun s w h => rcrc_any s w h
theorem allL_len {s : List UInt8} {M : List (List UInt8)} {K E : Nat} (h : allL s = (M, K, E)) : K ≤ s.length ∧ 8 * M.length ≤ s.length := by
  have h1 := all_ok s.length s (Nat.le_refl _)
  have h2 : allGo s.length s = (M, K, E) := h
  rw [h2] at h1
  obtain ⟨a, b, _, _⟩ := h1
  simp only at a b
  refine ⟨a, ?_⟩
  have := joined_len M
  rw [← b, List.length_take] at this
  omega
set_option maxRecDepth 100000 in
set_option maxHeartbeats 3200000 in
theorem reads_any (l : List UInt8) (w : World) (he : Env w) (hm : l.length ≤ 1048576) :
    Calls Tryd.prog 4 #[txt l] w fun r w' => r = .returned (.bool true) ∧ Below w.heap.size w w' := by
  obtain ⟨M, K, E, hA⟩ : ∃ M K E, allL l = (M, K, E) := ⟨_, _, _, rfl⟩
  obtain ⟨hK, hML⟩ := allL_len hA
  obtain ⟨n, hn⟩ : ∃ n, M.length = n := ⟨_, rfl⟩
  obtain ⟨NE, NP, NR, hN⟩ : ∃ a b c, nextL l = (a, b, c) := ⟨_, _, _, rfl⟩
  obtain ⟨OE, OP, hO⟩ : ∃ a b, oneL l = (a, b) := ⟨_, _, rfl⟩
  obtain ⟨S, hS⟩ : ∃ T : ByteArray, ⟨l.toArray⟩ = T := ⟨_, rfl⟩
  obtain ⟨TP, hTP⟩ : ∃ T : ByteArray, ⟨NP.toArray⟩ = T := ⟨_, rfl⟩
  obtain ⟨TR, hTR⟩ : ∃ T : ByteArray, ⟨NR.toArray⟩ = T := ⟨_, rfl⟩
  obtain ⟨TO, hTO⟩ : ∃ T : ByteArray, ⟨OP.toArray⟩ = T := ⟨_, rfl⟩
  have q1 := str_same TP
  have q2 := str_same TR
  have q3 := str_same TO
  have eN : nextV l = .returned (.tuple #[.string TP, .string TR, .int .i64 (NE : Nat)]) := by unfold nextV; rw [hN, ← hTP, ← hTR]
  have eO : oneV l = .returned (.tuple #[.string TO, .int .i64 (OE : Nat)]) := by unfold oneV txt; rw [hO, ← hTO]
  have cA := awake_any w he
  have c1 : ∀ W, Below w.heap.size w W → Calls Tryd.prog 13 #[.string S] W (fun r w' => ∃ ao c, r = .returned (.tuple #[.slice ao n c, .int .i64 (K : Nat), .int .i64 (E : Nat)]) ∧ Lay w' ao M ∧ Below W.heap.size W w') := fun W hW => by
    have h := all_any l W (he.below hW) (by omega)
    unfold txt at h
    rw [hS] at h
    rw [← hn]
    exact h.mono fun r w' h => AllPost.out h hA
  have c2 : ∀ W, Calls Tryd.prog 14 #[.string S] W (fun r w' => ∃ ao c, r = .returned (.tuple #[.slice ao n c, .int .i64 (K : Nat), .int .i64 (E : Nat)]) ∧ Lay w' ao M ∧ Below W.heap.size W w') := fun W => by
    have h := rall_any crc_of l W hm
    unfold txt at h
    rw [hS] at h
    rw [← hn]
    exact h.mono fun r w' h => AllPost.out h hA
  have c3 : ∀ W, Below w.heap.size w W → Calls Tryd.prog 15 #[.string S] W (fun r w' => r = .returned (.tuple #[.string TP, .string TR, .int .i64 (NE : Nat)]) ∧ Below W.heap.size W w') := fun W hW => by
    have h := next_any l W (he.below hW) (by omega)
    unfold txt at h
    rw [hS, eN] at h
    exact h
  have c4 : ∀ W, Calls Tryd.prog 16 #[.string S] W (fun r w' => r = .returned (.tuple #[.string TP, .string TR, .int .i64 (NE : Nat)]) ∧ Below W.heap.size W w') := fun W => by
    have h := rnext_any crc_of l W (by omega)
    rw [hS, eN] at h
    exact h
  have c5 : ∀ W, Below w.heap.size w W → Calls Tryd.prog 17 #[.string S] W (fun r w' => r = .returned (.tuple #[.string TO, .int .i64 (OE : Nat)]) ∧ Below W.heap.size W w') := fun W hW => by
    have h := one_any l W (he.below hW) (by omega)
    unfold txt at h
    rw [hS, eO] at h
    exact h
  have c6 : ∀ W, Calls Tryd.prog 18 #[.string S] W (fun r w' => r = .returned (.tuple #[.string TO, .int .i64 (OE : Nat)]) ∧ Below W.heap.size W w') := fun W => by
    have h := rone_any crc_of l W (by omega)
    unfold txt at h
    rw [hS, eO] at h
    exact h
  have c7 : ∀ W a1 a2 d1 d2, Lay W a1 M → Lay W a2 M → Calls Tryd.prog 19 #[.slice a1 n d1, .slice a2 n d2] W (fun r w' => r = .returned (.bool true) ∧ Below W.heap.size W w') := fun W a1 a2 d1 d2 h1 h2 => by
    rw [← hn]
    exact texts_same a1 a2 d1 d2 M W h1 h2 (by unfold maxLen; omega)
  have C1 := Lib.hid c1
  have C2 := Lib.hid c2
  have C3 := Lib.hid c3
  have C4 := Lib.hid c4
  have C5 := Lib.hid c5
  have C6 := Lib.hid c6
  have C7 := Lib.hid c7
  have CA := Lib.hid cA
  unfold txt
  rw [hS]
  clear c1 c2 c3 c4 c5 c6 c7 cA eN eO hTP hTR hTO hS hO hN hn hA hK hML hm he
  go_enter Tryd.func4, Tryd.ntmps4
  repeat (first
    | (go_at_call 8; refine CA.out.mono ?_; rintro r w1 ⟨rfl, hb⟩; simp only []; have B1 := Lib.hid hb; clear hb)
    | (go_at_call 13; refine (C1.out _ B1.out).mono ?_; rintro r w2 ⟨ao1, d1, rfl, hl, hb⟩; simp only []; have L2 := Lib.hid hl; have B2 := Lib.hid (Below.trans B1.out (hb.mono B1.out.size)); clear hb hl)
    | (go_at_call 14; refine (C2.out _).mono ?_; rintro r w3 ⟨ao2, d2, rfl, hl, hb⟩; simp only []; have K3 := Lib.hid hl; have L3 := Lib.hid (L2.out.below hb); have B3 := Lib.hid (Below.trans B2.out (hb.mono B2.out.size)); clear hb hl)
    | (go_at_call 15; refine (C3.out _ B3.out).mono ?_; rintro r w4 ⟨rfl, hb⟩; simp only []; have K4 := Lib.hid (K3.out.below hb); have L4 := Lib.hid (L3.out.below hb); have B4 := Lib.hid (Below.trans B3.out (hb.mono B3.out.size)); clear hb)
    | (go_at_call 16; refine (C4.out _).mono ?_; rintro r w5 ⟨rfl, hb⟩; simp only []; have K5 := Lib.hid (K4.out.below hb); have L5 := Lib.hid (L4.out.below hb); have B5 := Lib.hid (Below.trans B4.out (hb.mono B4.out.size)); clear hb)
    | (go_at_call 17; refine (C5.out _ B5.out).mono ?_; rintro r w6 ⟨rfl, hb⟩; simp only []; have K6 := Lib.hid (K5.out.below hb); have L6 := Lib.hid (L5.out.below hb); have B6 := Lib.hid (Below.trans B5.out (hb.mono B5.out.size)); clear hb)
    | (go_at_call 18; refine (C6.out _).mono ?_; rintro r w7 ⟨rfl, hb⟩; simp only []; have K7 := Lib.hid (K6.out.below hb); have L7 := Lib.hid (L6.out.below hb); have B7 := Lib.hid (Below.trans B6.out (hb.mono B6.out.size)); clear hb)
    | (go_at_call 19; refine (C7.out _ _ _ _ _ L7.out K7.out).mono ?_; rintro r w8 ⟨rfl, hb⟩; simp only []; have B8 := Lib.hid (Below.trans B7.out (hb.mono B7.out.size)); clear hb)
    | go_skip | go_guarded | go_step | go_upon)
  trace_state
  go_ret
  exact ⟨rfl, B8.out⟩
end RF
end Go.Proofs.YtpcbbhbkiiklaaaDoor
