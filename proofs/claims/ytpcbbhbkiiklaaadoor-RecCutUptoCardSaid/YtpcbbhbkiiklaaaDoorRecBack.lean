/- Layer 5: the walk of RecBack. -/
import Derived.Test.YtpcbbhbkiiklaaaDoorRecReads
namespace Go.Proofs.YtpcbbhbkiiklaaaDoor
open Go.RowKit Go.Lib Go.BigFrame
namespace RF
open HP HS RP OM RQ HR
open HQ (Env crc_any)

theorem all_say {s : List UInt8} {M : List (List UInt8)} {K E : Nat} (h : allL s = (M, K, E)) : K ≤ s.length ∧ s.take K = joined M ∧ (∀ p ∈ M, p.length ≤ MaxP) ∧ (E = 0 ↔ K = s.length) := by
  have h1 := all_ok s.length s (Nat.le_refl _)
  have h2 : allGo s.length s = (M, K, E) := h
  rw [h2] at h1
  exact h1
theorem all_joined {ls : List (List UInt8)} (h : ∀ p ∈ ls, p.length ≤ MaxP) : allL (joined ls) = (ls, (joined ls).length, 0) := all_join ls _ (Nat.le_refl _) h
set_option maxRecDepth 100000 in
set_option maxHeartbeats 6400000 in
theorem back_any (ao : Option Addr) (cap : Nat) (ls : List (List UInt8)) (s : List UInt8) (w : World) (he : Env w) (h : Lay w ao ls) (hm : (joined ls).length ≤ 1073741824) (hs : s.length ≤ 1048576) :
    Calls Tryd.prog 5 #[.slice ao ls.length cap, txt s] w fun r w' => r = .returned (.bool true) ∧ Below w.heap.size w w' := by
  obtain ⟨TJ, hTJ⟩ : ∃ T : ByteArray, ⟨(joinT ls).toArray⟩ = T := ⟨_, rfl⟩
  obtain ⟨JE, hJE⟩ : ∃ e : Nat, joinE ls = e := ⟨_, rfl⟩
  have eJ : joinV ls = .returned (.tuple #[.string TJ, .int .i64 (JE : Nat)]) := by unfold joinV txt; rw [hTJ, hJE]
  have cA := awake_any w he
  obtain ⟨n, hn⟩ : ∃ n, ls.length = n := ⟨_, rfl⟩
  have hnm : n ≤ 1073741824 := by have := joined_len ls; omega
  have c1 : ∀ W, Below w.heap.size w W → Calls Tryd.prog 9 #[.slice ao n cap] W (fun r w' => r = .returned (.tuple #[.string TJ, .int .i64 (JE : Nat)]) ∧ Below W.heap.size W w') := fun W hW => by
    have h := join_any ao cap ls W (he.below hW) (h.below hW) hm
    rw [eJ, hn] at h
    exact h
  have c3 : ∀ W a1 a2 d1 d2, Lay W a1 ls → Lay W a2 ls → Calls Tryd.prog 19 #[.slice a1 n d1, .slice a2 n d2] W (fun r w' => r = .returned (.bool true) ∧ Below W.heap.size W w') := fun W a1 a2 d1 d2 h1 h2 => by
    rw [← hn]
    exact texts_same a1 a2 d1 d2 ls W h1 h2 (by unfold maxLen; omega)
  obtain ⟨S, hS⟩ : ∃ T : ByteArray, ⟨s.toArray⟩ = T := ⟨_, rfl⟩
  obtain ⟨z, hz⟩ : ∃ z, s.length = z := ⟨_, rfl⟩
  have hSz : S.size = z := by rw [← hS, Lib.size_eq]; exact hz
  have hSd : S.data.toList = s := by rw [← hS]
  obtain ⟨M, K, E, hA⟩ : ∃ M K E, allL s = (M, K, E) := ⟨_, _, _, rfl⟩
  obtain ⟨a1, a2, a3, a4⟩ := all_say hA
  obtain ⟨k, hk⟩ : ∃ k, M.length = k := ⟨_, rfl⟩
  have hMj : (joined M).length = K := by rw [← a2, List.length_take]; omega
  have c4 : ∀ W, Below w.heap.size w W → Calls Tryd.prog 13 #[.string S] W (fun r w' => ∃ ao c, r = .returned (.tuple #[.slice ao k c, .int .i64 (K : Nat), .int .i64 (E : Nat)]) ∧ Lay w' ao M ∧ Below W.heap.size W w') := fun W hW => by
    have h := all_any s W (he.below hW) (by omega)
    unfold txt at h
    rw [hS] at h
    rw [← hk]
    exact h.mono fun r w' h => AllPost.out h hA
  obtain ⟨TU, hTU⟩ : ∃ T : ByteArray, ⟨(joined M).toArray⟩ = T := ⟨_, rfl⟩
  have c5 : ∀ W ao c, Below w.heap.size w W → Lay W ao M → Calls Tryd.prog 9 #[.slice ao k c] W (fun r w' => r = .returned (.tuple #[.string TU, .int .i64 0]) ∧ Below W.heap.size W w') := fun W ao c hW hl => by
    have h := join_any ao c M W (he.below hW) hl (by omega)
    rw [joinV_ok a3, hk] at h
    unfold txt at h
    rw [hTU] at h
    exact h
  have s1 := sl_to S K K rfl (by omega)
  rw [hSd, a2, hTU] at s1
  have q1 := str_same TU
  have hKz : ¬ (z : Int) < K := by omega
  obtain ⟨b, hb1, hb2⟩ : ∃ b : Bool, ((E : Int) == 0) = b ∧ ((K : Int) == (z : Int)) = b := by
    by_cases hE : E = 0
    · have := a4.1 hE
      exact ⟨true, by simp; omega, by simp; omega⟩
    · have : K ≠ z := fun e => hE (a4.2 (by omega))
      exact ⟨false, by simp; omega, by simp; omega⟩
  have hbb : (b != b) = false := by simp
  have hzl : (z : Int) ≤ 1048576 := by omega
  have C1 := Lib.hid c1
  have C3 := Lib.hid c3
  have C4 := Lib.hid c4
  have C5 := Lib.hid c5
  have CA := Lib.hid cA
  have HL := Lib.hid h
  unfold txt
  rw [hn, hS]
  by_cases hok : ∀ p ∈ ls, p.length ≤ MaxP
  · have e1 : JE = 0 := by rw [← hJE]; unfold joinE; rw [if_pos hok]
    have e2 : joinT ls = joined ls := by unfold joinT; rw [if_pos hok]
    subst e1
    obtain ⟨jl, hjl⟩ : ∃ jl, (joined ls).length = jl := ⟨_, rfl⟩
    have hTJs : TJ.size = jl := by rw [← hTJ, e2, Lib.size_eq]; exact hjl
    have c2 : ∀ W, Below w.heap.size w W → Calls Tryd.prog 13 #[.string TJ] W (fun r w' => ∃ ao c, r = .returned (.tuple #[.slice ao n c, .int .i64 (jl : Nat), .int .i64 0]) ∧ Lay w' ao ls ∧ Below W.heap.size W w') := fun W hW => by
      have h := all_any (joined ls) W (he.below hW) hm
      unfold txt at h
      rw [← e2, hTJ] at h
      rw [← hn, ← hjl]
      exact h.mono fun r w' h => AllPost.out h (by rw [e2]; exact all_joined hok)
    have C2 := Lib.hid c2
    have hjlz : (jl : Int) ≤ 1073741824 := by omega
    clear c1 c2 c3 c4 c5 cA eJ hTJ hJE hn h he hm hS hz hSd hA a1 a2 a3 a4 hk hMj hTU hs hok e2 hjl
    go_enter Tryd.func5, Tryd.ntmps5
    repeat (first
      | (go_at_call 8; refine CA.out.mono ?_; rintro r w1 ⟨rfl, hb⟩; simp only []; have B1 := Lib.hid hb; clear hb)
      | (go_at_call_of 9 (Value.slice ao n cap); refine (C1.out _ B1.out).mono ?_; rintro r w2 ⟨rfl, hb⟩; simp only []; have B2 := Lib.hid (Below.trans B1.out (hb.mono B1.out.size)); clear hb)
      | (go_at_call_of 13 (Value.string TJ); refine (C2.out _ B2.out).mono ?_; rintro r w3 ⟨ao3, d3, rfl, hl, hb⟩; simp only []; have L3 := Lib.hid hl; have B3 := Lib.hid (Below.trans B2.out (hb.mono B2.out.size)); clear hb hl)
      | (go_at_call 19; refine (C3.out _ _ _ _ _ (HL.out.below B3.out) L3.out).mono ?_; rintro r w4 ⟨rfl, hb⟩; simp only []; have B4 := Lib.hid (Below.trans B3.out (hb.mono B3.out.size)); clear hb)
      | (go_at_call_of 13 (Value.string S); refine (C4.out _ B4.out).mono ?_; rintro r w5 ⟨ao5, d5, rfl, hl, hb⟩; simp only []; have L5 := Lib.hid hl; have B5 := Lib.hid (Below.trans B4.out (hb.mono B4.out.size)); clear hb hl)
      | (go_at_call 9; refine (C5.out _ _ _ B5.out L5.out).mono ?_; rintro r w6 ⟨rfl, hb⟩; simp only []; have B6 := Lib.hid (Below.trans B5.out (hb.mono B5.out.size)); clear hb)
      | go_skip | go_guarded | go_step | go_upon)
    trace_state
    go_ret
    exact ⟨rfl, B6.out⟩
  · have e1 : JE = 32 := by rw [← hJE]; unfold joinE; rw [if_neg hok]
    subst e1
    clear c1 c3 c4 c5 cA eJ hTJ hJE hn h he hm hS hz hSd hA a1 a2 a3 a4 hk hMj hTU hs hok
    go_enter Tryd.func5, Tryd.ntmps5
    repeat (first
      | (go_at_call 8; refine CA.out.mono ?_; rintro r w1 ⟨rfl, hb⟩; simp only []; have B1 := Lib.hid hb; clear hb)
      | (go_at_call_of 9 (Value.slice ao n cap); refine (C1.out _ B1.out).mono ?_; rintro r w2 ⟨rfl, hb⟩; simp only []; have B2 := Lib.hid (Below.trans B1.out (hb.mono B1.out.size)); clear hb)
      | (go_at_call_of 13 (Value.string S); refine (C4.out _ B2.out).mono ?_; rintro r w5 ⟨ao5, d5, rfl, hl, hb⟩; simp only []; have L5 := Lib.hid hl; have B5 := Lib.hid (Below.trans B2.out (hb.mono B2.out.size)); clear hb hl)
      | (go_at_call 9; refine (C5.out _ _ _ B5.out L5.out).mono ?_; rintro r w6 ⟨rfl, hb⟩; simp only []; have B6 := Lib.hid (Below.trans B5.out (hb.mono B5.out.size)); clear hb)
      | go_skip | go_guarded | go_step | go_upon)
    go_ret
    exact ⟨rfl, B6.out⟩
end RF
end Go.Proofs.YtpcbbhbkiiklaaaDoor
