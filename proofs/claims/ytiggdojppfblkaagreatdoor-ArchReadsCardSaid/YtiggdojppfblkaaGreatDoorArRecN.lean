/- Layer 5: the contracts of the program's Next, One. -/
import Derived.Test.YtiggdojppfblkaaGreatDoorArRecP
namespace Go.Proofs.YtiggdojppfblkaaGreatDoor
open Go.RowKit Go.Lib Go.BigFrame
namespace RP
open HP HS
theorem num_sub (l : List UInt8) (k : Nat) : num4 ((l.drop k).take 4) 0 = num4 l k := by
  have e : ∀ j, j < 4 → ((l.drop k).take 4).getD j 0 = l.getD (k + j) 0 := fun j hj => by
    rw [List.getD_eq_getElem?_getD, List.getD_eq_getElem?_getD, List.getElem?_take_of_lt hj, List.getElem?_drop]
  unfold num4
  rw [e 0 (by decide), e (0 + 1) (by decide), e (0 + 2) (by decide), e (0 + 3) (by decide)]
  rfl
end RP
namespace RF
open HP HS RP OM RQ HCr
open HC (Env crc_any)

set_option maxRecDepth 100000 in
set_option maxHeartbeats 3200000 in
theorem next_any (l : List UInt8) (w : World) (he : Env w) (hm : l.length ≤ 9223372036854775807) :
    Calls Tryz.prog 73 #[txt l] w fun r w' => r = nextV l ∧ Below w.heap.size w w' := by
  obtain ⟨S, hS⟩ : ∃ S : ByteArray, ⟨l.toArray⟩ = S := ⟨_, rfl⟩
  have hSd : S.data.toList = l := by rw [← hS]
  obtain ⟨z, hz⟩ : ∃ z, l.length = z := ⟨_, rfl⟩
  have hSz : S.size = z := by rw [Lib.size_eq, hSd]; exact hz
  unfold txt
  rw [hS]
  by_cases h8 : z < 8
  · have hV : nextL l = (50, [], []) := by unfold nextL; rw [if_pos (by omega)]
    have HV : Hid (nextV l = .returned (.tuple #[.string ⟨#[]⟩, .string ⟨#[]⟩, .int .i64 50])) := Lib.hid (by unfold nextV; rw [hV]; rfl)
    have h8z : (z : Int) < 8 := by omega
    clear hV hS hSd hz he
    go_enter Tryz.func73, Tryz.ntmps73
    repeat (first | go_skip | go_guarded | go_step | go_upon)
    go_ret3
    exact ⟨by rw [HV.out]; rfl, Below.refl _ _⟩
  · obtain ⟨n, hn⟩ : ∃ n, num4 l 0 = n := ⟨_, rfl⟩
    have hnl : n < 4294967296 := by rw [← hn]; exact num_lt l 0
    obtain ⟨m, hm4⟩ : ∃ m, num4 l 4 = m := ⟨_, rfl⟩
    have hml : m < 4294967296 := by rw [← hm4]; exact num_lt l 4
    obtain ⟨F, hF⟩ : ∃ F, l.take 4 = F := ⟨_, rfl⟩
    obtain ⟨M, hM⟩ : ∃ M, (l.drop 4).take 4 = M := ⟨_, rfl⟩
    obtain ⟨B, hB⟩ : ∃ B, l.drop 8 = B := ⟨_, rfl⟩
    obtain ⟨TF, hTF⟩ : ∃ T : ByteArray, ⟨F.toArray⟩ = T := ⟨_, rfl⟩
    obtain ⟨TM, hTM⟩ : ∃ T : ByteArray, ⟨M.toArray⟩ = T := ⟨_, rfl⟩
    obtain ⟨TB, hTB⟩ : ∃ T : ByteArray, ⟨B.toArray⟩ = T := ⟨_, rfl⟩
    have hFl : F.length = 4 := by rw [← hF, List.length_take]; omega
    have hMl : M.length = 4 := by rw [← hM, List.length_take, List.length_drop]; omega
    obtain ⟨q, hq⟩ : ∃ q, z = q + 8 := ⟨z - 8, by omega⟩
    have hBl : B.length = q := by rw [← hB, List.length_drop]; omega
    have hTBd : TB.data.toList = B := by rw [← hTB]
    have hTBz : TB.size = q := by rw [Lib.size_eq, hTBd]; exact hBl
    have s1 := sl_to S 4 4 rfl (by omega)
    have s2 := sl_mid S 4 8 4 8 rfl rfl (by omega) (by omega)
    have s3 := sl_from S 8 8 rfl (by omega)
    rw [hSd, hF, hTF] at s1
    rw [hSd, show 8 - 4 = 4 from rfl, hM, hTM] at s2
    rw [hSd, hB, hTB] at s3
    have C1 : Hid (∀ W, Calls Tryz.prog 101 #[.string TF] W fun r w' => r = .returned (.int .u32 n) ∧ Below W.heap.size W w') := Lib.hid (fun W => by
      have h := read_any TF W (by rw [← hTF, Lib.size_eq]; exact hFl)
      have e : TF.data.toList = F := by rw [← hTF]
      have e2 := num_sub l 0
      rw [List.drop_zero, hF, hn] at e2
      rw [e, e2] at h
      exact h)
    have C2 : Hid (∀ W, Calls Tryz.prog 101 #[.string TM] W fun r w' => r = .returned (.int .u32 m) ∧ Below W.heap.size W w') := Lib.hid (fun W => by
      have h := read_any TM W (by rw [← hTM, Lib.size_eq]; exact hMl)
      have e : TM.data.toList = M := by rw [← hTM]
      have e2 := num_sub l 4
      rw [hM, hm4] at e2
      rw [e, e2] at h
      exact h)
    have h8z : ¬ (z : Int) < 8 := by omega
    have hnz : (n : Int) < 4294967296 := by omega
    have hmz : (m : Int) < 4294967296 := by omega
    have HC := Lib.hid hq
    clear hq
    go_enter Tryz.func73, Tryz.ntmps73
    repeat (first | go_skip | go_guarded | go_step | go_upon)
    have D2 := Lib.hid (reg_of (w := w) (fun W _ => C2.out W))
    with_reducible refine wp_region_quiet_below (by kernel_rfl) (by kernel_rfl) ?_
    repeat (go_big_quiet_step (first | (go_at_call 101; exact D2.out _ _)))
    refine wpQuiet_nil ?_
    intro _ hw'
    obtain ⟨⟨dq, osq⟩, hw''⟩ := hw'
    subst hw''
    have HB1 : Hid (Below w.heap.size w (Go.Sort.grow (redrawn w dq) osq)) := Lib.hid (below_regrown w dq osq)
    generalize Go.Sort.grow (redrawn w dq) osq = w1 at HB1 ⊢
    by_cases h1 : MaxP < n
    · have hV : nextL l = (32, [], []) := by unfold nextL; rw [if_neg (by omega), hn, if_pos h1]
      have HV : Hid (nextV l = .returned (.tuple #[.string ⟨#[]⟩, .string ⟨#[]⟩, .int .i64 32])) := Lib.hid (by unfold nextV; rw [hV]; rfl)
      have h1z : (1048576 : Int) < n := by unfold MaxP at h1; omega
      clear hV hS hSd hz he hn hnl hm4 hml hF hM hB hTF hTM hTB hFl hMl hBl hTBd hTBz
      repeat (first | (go_at_call_of 101 (Value.string TF); refine (C1.out _).mono ?_; rintro r w2 ⟨rfl, hb2⟩; simp only []; have HB2 := Lib.hid (Below.trans HB1.out (hb2.mono HB1.out.size)); clear hb2) | go_skip | go_guarded | go_step | go_upon)
      go_ret3
      exact ⟨by rw [HV.out]; rfl, HB2.out⟩
    · have h1z : ¬ (1048576 : Int) < n := by unfold MaxP at h1; omega
      by_cases h2 : q < n
      · have hV : nextL l = (50, [], []) := by unfold nextL; rw [if_neg (by omega), hn, if_neg h1, hz, if_pos (by have := HC.out; omega)]
        have HV : Hid (nextV l = .returned (.tuple #[.string ⟨#[]⟩, .string ⟨#[]⟩, .int .i64 50])) := Lib.hid (by unfold nextV; rw [hV]; rfl)
        have h2z : (q : Int) < n := by omega
        clear hV hS hSd hz he hn hnl hm4 hml hF hM hB hTF hTM hTB hFl hMl hBl hTBd
        repeat (first | (go_at_call_of 101 (Value.string TF); refine (C1.out _).mono ?_; rintro r w2 ⟨rfl, hb2⟩; simp only []; have HB2 := Lib.hid (Below.trans HB1.out (hb2.mono HB1.out.size)); clear hb2 HB1; have HB1 := HB2) | go_skip | go_guarded | go_step | go_upon)
        go_ret3
        exact ⟨by rw [HV.out]; rfl, HB2.out⟩
      · have h2z : ¬ (q : Int) < n := by omega
        obtain ⟨P, hP⟩ : ∃ P, B.take n = P := ⟨_, rfl⟩
        obtain ⟨R, hR⟩ : ∃ R, B.drop n = R := ⟨_, rfl⟩
        obtain ⟨TP, hTP⟩ : ∃ T : ByteArray, ⟨P.toArray⟩ = T := ⟨_, rfl⟩
        obtain ⟨TR, hTR⟩ : ∃ T : ByteArray, ⟨R.toArray⟩ = T := ⟨_, rfl⟩
        have s4 := sl_to TB n n rfl (by omega)
        have s5 := sl_from TB n n rfl (by omega)
        rw [hTBd, hP, hTP] at s4
        rw [hTBd, hR, hTR] at s5
        obtain ⟨c, hc⟩ : ∃ c, crcL (F ++ P) = c := ⟨_, rfl⟩
        have hcz : (c : Int) < 4294967296 := by have := crcL_lt (F ++ P); omega
        have C3 : Hid (∀ W, Below w.heap.size w W → Calls Tryz.prog 70 #[.string TF, .string TP] W fun r w' => r = .returned (.int .u32 c) ∧ W = w') := Lib.hid (fun W hW => by
          have h := sum_any F P W (he.below hW) (by rw [← hP, List.length_take]; unfold maxLen; omega)
          unfold txt at h
          rw [hc, hTF, hTP] at h
          exact h)
        have hB2 : (l.drop 8).take n = P := by rw [hB, hP]
        have hR2 : l.drop (8 + n) = R := by rw [← hR, ← hB, List.drop_drop]
        by_cases hmc : m = c
        · have HV : Hid (nextV l = .returned (.tuple #[.string TP, .string TR, .int .i64 0])) := Lib.hid (by
            unfold nextV nextL
            rw [if_neg (by omega), hn, if_neg h1, hz, if_neg (by have := HC.out; omega), hm4, hF, hB2, hR2, hc, if_pos hmc, ← hTP, ← hTR]
            rfl)
          have hmcz : ((c : Int) != (m : Int)) = false := by rw [hmc]; simp
          clear hS hSd hz he hn hnl hm4 hml hF hM hB hTF hTM hTB hFl hMl hBl hTBd hP hR hTP hTR hc hB2 hR2 hmc
          repeat (first | (go_at_call_of 101 (Value.string TF); refine (C1.out _).mono ?_; rintro r w2 ⟨rfl, hb2⟩; simp only []; have HB2 := Lib.hid (Below.trans HB1.out (hb2.mono HB1.out.size)); clear hb2 HB1; have HB1 := HB2) | (go_at_call 70; refine (C3.out _ HB1.out).mono ?_; rintro r w2 ⟨rfl, rfl⟩; simp only []) | go_skip | go_guarded | go_step | go_upon)
          go_quiet (fail)
          rename_i nq
          have HB3 : Hid (Below w.heap.size w (w2.drewN nq)) := Lib.hid ⟨HB1.out.os, HB1.out.tape, HB1.out.output, HB1.out.size, HB1.out.block⟩
          generalize w2.drewN nq = w3 at HB3 ⊢
          repeat (first | go_skip | go_guarded | go_step | go_upon)
          go_ret3
          exact ⟨HV.out.symm, HB3.out⟩
        · have HV : Hid (nextV l = .returned (.tuple #[.string ⟨#[]⟩, .string ⟨#[]⟩, .int .i64 51])) := Lib.hid (by
            unfold nextV nextL
            rw [if_neg (by omega), hn, if_neg h1, hz, if_neg (by have := HC.out; omega), hm4, hF, hB2, hc, if_neg hmc]
            rfl)
          have hmcz : ((c : Int) != (m : Int)) = true := by simp; omega
          clear hS hSd hz he hn hnl hm4 hml hF hM hB hTF hTM hTB hFl hMl hBl hTBd hP hR hTP hTR hc hB2 hR2 hmc
          repeat (first | (go_at_call_of 101 (Value.string TF); refine (C1.out _).mono ?_; rintro r w2 ⟨rfl, hb2⟩; simp only []; have HB2 := Lib.hid (Below.trans HB1.out (hb2.mono HB1.out.size)); clear hb2 HB1; have HB1 := HB2) | (go_at_call 70; refine (C3.out _ HB1.out).mono ?_; rintro r w2 ⟨rfl, rfl⟩; simp only []) | go_skip | go_guarded | go_step | go_upon)
          go_ret3
          exact ⟨by rw [HV.out]; rfl, HB1.out⟩
set_option maxRecDepth 100000 in
set_option maxHeartbeats 1600000 in
theorem one_any (l : List UInt8) (w : World) (he : Env w) (hm : l.length ≤ 9223372036854775807) :
    Calls Tryz.prog 41 #[txt l] w fun r w' => r = oneV l ∧ Below w.heap.size w w' := by
  have cN := next_any l w he hm
  unfold nextV at cN
  unfold txt at cN ⊢
  rcases next_cases l with ⟨p, r, hn⟩ | ⟨e, hn, he⟩
  · rw [hn] at cN
    simp only at cN
    cases r with
    | nil =>
      have HV : Hid (oneV l = .returned (.tuple #[txt p, .int .i64 0])) := Lib.hid (by unfold oneV oneL; rw [hn]; rfl)
      have CN := Lib.hid cN
      clear cN hn he
      go_enter Tryz.func41, Tryz.ntmps41
      repeat (first | (go_at_call 73; refine CN.out.mono ?_; rintro r w1 ⟨rfl, hb1⟩; simp only []; have HB1 := Lib.hid hb1; clear hb1) | go_skip | go_guarded | go_step | go_upon)
      go_ret2
      exact ⟨HV.out.symm, HB1.out⟩
    | cons x r =>
      have HV : Hid (oneV l = .returned (.tuple #[.string ⟨#[]⟩, .int .i64 32])) := Lib.hid (by unfold oneV oneL; rw [hn]; rfl)
      have CN := Lib.hid cN
      obtain ⟨T, hT⟩ : ∃ T : ByteArray, ⟨(x :: r).toArray⟩ = T := ⟨_, rfl⟩
      have hTe : T.toList.isEmpty = false := by rw [← hT, Lib.toList_data]; rfl
      rw [hT] at CN
      clear cN hn hT he
      go_enter Tryz.func41, Tryz.ntmps41
      repeat (first | (go_at_call 73; refine CN.out.mono ?_; rintro r w1 ⟨rfl, hb1⟩; simp only []; have HB1 := Lib.hid hb1; clear hb1) | go_skip | go_guarded | go_step | go_upon)
      go_ret2
      exact ⟨by rw [HV.out]; rfl, HB1.out⟩
  · rw [hn] at cN
    simp only at cN
    have HV : Hid (oneV l = .returned (.tuple #[.string ⟨#[]⟩, .int .i64 ((e + 1 : Nat) : Int)])) := Lib.hid (by unfold oneV oneL; rw [hn]; rfl)
    obtain ⟨z, hz⟩ : ∃ z : Int, ((e + 1 : Nat) : Int) = z := ⟨_, rfl⟩
    have hz0 : (z != 0) = true := by simp; omega
    have hz1 : z ≠ 0 := by omega
    rw [hz] at HV cN
    have CN := Lib.hid cN
    clear cN hn hz
    go_enter Tryz.func41, Tryz.ntmps41
    repeat (first | (go_at_call 73; refine CN.out.mono ?_; rintro r w1 ⟨rfl, hb1⟩; simp only []; have HB1 := Lib.hid hb1; clear hb1) | go_skip | go_guarded | go_step | go_upon)
    go_ret2
    exact ⟨HV.out.symm, HB1.out⟩
end RF
end Go.Proofs.YtiggdojppfblkaaGreatDoor
