/- Layer 5: the contract of the document's Next. -/
import Derived.Test.YtiggdojppfblkaaGreatDoorRecRef
import Derived.Deep.RegionWith
import Derived.Lib.QuietBelow
import Derived.BigQuiet
namespace Go.Proofs.YtiggdojppfblkaaGreatDoor
open Go.RowKit Go.Lib Go.BigFrame
namespace RQ
open HP HS RP

def nextV (l : List UInt8) : Ending := .returned (.tuple #[.string ⟨(nextL l).2.1.toArray⟩, .string ⟨(nextL l).2.2.toArray⟩, .int .i64 ((nextL l).1 : Nat)])
theorem ext_bytes (l : List UInt8) (a b : Nat) : (⟨l.toArray⟩ : ByteArray).extract a b = ⟨((l.drop a).take (b - a)).toArray⟩ := by
  apply ByteArray.ext
  apply Array.ext'
  exact Lib.extract_data _ a b
/-- A callee's contract, met in a world of a region that draws its order. -/
theorem reg_of {f : FuncId} {args : Array Value} {v : Value} {w : World} (h : ∀ W, Below w.heap.size w W → Calls Tryz.prog f args W fun e w' => e = .returned v ∧ Below W.heap.size W w') (d : Nat) (os : Array Obj) :
    Calls Tryz.prog f args (Go.Sort.grow (redrawn w d) os) fun e w'' => e = .returned v ∧ ∃ p : Regrown, w'' = Go.Sort.grow (redrawn w p.d) p.os := Calls.regrown_of (h _ (below_regrown w d os))
theorem sl_mid (S : ByteArray) (a b : Nat) (za zb : Int) (ha : za = a) (hb : zb = b) (h1 : a ≤ b) (h2 : b ≤ S.size) (W : World) :
    (Instr.slice 9 (.string S) (some (.int .i64 za)) (some (.int .i64 zb)) none).run Tryz.prog W = .ok (.string ⟨((S.data.toList.drop a).take (b - a)).toArray⟩) W := by
  subst ha hb
  rw [run_slice_string W 9 S .i64 .i64 a b Tryz.underlying9 (by omega) (by omega) (by omega), bytes_is S, ext_bytes]
  rfl
theorem sl_from (S : ByteArray) (a : Nat) (za : Int) (ha : za = a) (h2 : a ≤ S.size) (W : World) :
    (Instr.slice 9 (.string S) (some (.int .i64 za)) none none).run Tryz.prog W = .ok (.string ⟨(S.data.toList.drop a).toArray⟩) W := by
  subst ha
  rw [run_slice_string_from_if W 9 S .i64 a Tryz.underlying9, if_pos (by omega), bytes_is S, ext_bytes, List.take_of_length_le (by rw [List.length_drop, Lib.size_eq]; simp)]
  rfl
theorem sl_to (S : ByteArray) (a : Nat) (za : Int) (ha : za = a) (h2 : a ≤ S.size) (W : World) :
    (Instr.slice 9 (.string S) none (some (.int .i64 za)) none).run Tryz.prog W = .ok (.string ⟨(S.data.toList.take a).toArray⟩) W := by
  subst ha
  rw [run_slice_string_to_if W 9 S .i64 a Tryz.underlying9, if_pos (by omega), bytes_is S, ext_bytes]
  rfl
set_option maxRecDepth 100000 in
set_option maxHeartbeats 1600000 in
theorem rnext_any (CC : CrcOf) (l : List UInt8) (w : World) (hm : l.length ≤ 9223372036854775807) :
    Calls Tryz.prog 79 #[.string ⟨l.toArray⟩] w fun r w' => r = nextV l ∧ Below w.heap.size w w' := by
  have hsz : (⟨l.toArray⟩ : ByteArray).size = l.length := by rw [Lib.size_eq]
  obtain ⟨S, hS⟩ : ∃ S : ByteArray, S = ⟨l.toArray⟩ := ⟨_, rfl⟩
  have HSz : S.size = l.length := by rw [hS]; exact hsz
  have hSd : S.data.toList = l := by rw [hS]
  rw [← hS]
  obtain ⟨z, hz⟩ : ∃ z, l.length = z := ⟨_, rfl⟩
  by_cases h8 : z < 8
  · have hV : nextL l = (50, [], []) := by unfold nextL; rw [if_pos (by omega)]
    have HV : Hid (nextV l = .returned (.tuple #[.string ⟨#[]⟩, .string ⟨#[]⟩, .int .i64 50])) := Lib.hid (by unfold nextV; rw [hV]; rfl)
    have h8z : (S.size : Int) < 8 := by omega
    clear hV hS hSd hsz HSz hz
    go_enter Tryz.func79, Tryz.ntmps79
    go_wp2
    go_ret3
    exact ⟨by rw [HV.out]; rfl, Below.refl _ _⟩
  · obtain ⟨n, hn⟩ : ∃ n, num4 l 0 = n := ⟨_, rfl⟩
    have hnl : n < 4294967296 := by rw [← hn]; exact num_lt l 0
    have C1 : Hid (∀ W, Calls Tryz.prog 108 #[.string S, .int .i64 0] W fun r w' => r = .returned (.int .u32 n) ∧ Below W.heap.size W w') := Lib.hid (fun W => by
      have h := rnumber_any S 0 W (by omega) (by unfold maxLen; omega)
      rw [hSd, hn] at h
      exact h)
    have h8z : ¬ (S.size : Int) < 8 := by omega
    have hnz : (n : Int) < 4294967296 := by omega
    by_cases h1 : MaxP < n
    · have hV : nextL l = (32, [], []) := by unfold nextL; rw [if_neg (by omega), hn, if_pos h1]
      have HV : Hid (nextV l = .returned (.tuple #[.string ⟨#[]⟩, .string ⟨#[]⟩, .int .i64 32])) := Lib.hid (by unfold nextV; rw [hV]; rfl)
      have h1z : (1048576 : Int) < n := by unfold MaxP at h1; omega
      clear hV hS hSd hsz HSz hz hnl hn
      go_enter Tryz.func79, Tryz.ntmps79
      go_wp2_with (go_at_call 108; with_reducible refine (C1.out _).mono ?_; rintro r w1 ⟨rfl, hb1⟩; have HB1 := Lib.hid hb1; clear hb1)
      go_ret3
      exact ⟨by rw [HV.out]; rfl, HB1.out⟩
    · have h1z : ¬ (1048576 : Int) < n := by unfold MaxP at h1; omega
      by_cases h2 : z < n + 8
      · have hV : nextL l = (50, [], []) := by unfold nextL; rw [if_neg (by omega), hn, if_neg h1, hz, if_pos h2]
        have HV : Hid (nextV l = .returned (.tuple #[.string ⟨#[]⟩, .string ⟨#[]⟩, .int .i64 50])) := Lib.hid (by unfold nextV; rw [hV]; rfl)
        have h2z : (S.size : Int) - 8 < n := by omega
        clear hV hS hSd hsz hnl hn
        obtain ⟨q, hq⟩ : ∃ q : Nat, (S.size : Int) = q + 8 := ⟨z - 8, by omega⟩
        have h2q : (q : Int) < n := by omega
        clear h8 h1 h2 hz HSz hm h2z h8z
        have h8z : ¬ (q : Int) + 8 < 8 := by omega
        go_enter Tryz.func79, Tryz.ntmps79
        repeat (first | (go_at_call 108; with_reducible refine (C1.out _).mono ?_; rintro r w1 ⟨rfl, hb1⟩; simp only []; have HB1 := Lib.hid hb1; clear hb1) | go_skip | go_guarded | go_step | go_upon)
        go_ret3
        exact ⟨by rw [HV.out]; rfl, HB1.out⟩
      · obtain ⟨q, hq⟩ : ∃ q : Nat, (S.size : Int) = q + 8 := ⟨z - 8, by omega⟩
        have h2q : ¬ (q : Int) < n := by omega
        obtain ⟨m, hm4⟩ : ∃ m, num4 l 4 = m := ⟨_, rfl⟩
        have hml : m < 4294967296 := by rw [← hm4]; exact num_lt l 4
        have C2 : Hid (∀ W, Calls Tryz.prog 108 #[.string S, .int .i64 4] W fun r w' => r = .returned (.int .u32 m) ∧ Below W.heap.size W w') := Lib.hid (fun W => by
          have h := rnumber_any S 4 W (by omega) (by unfold maxLen; omega)
          rw [hSd, hm4] at h
          exact h)
        have hmz : (m : Int) < 4294967296 := by omega
        clear h8z
        have h8z : ¬ (q : Int) + 8 < 8 := by omega
        obtain ⟨P, hP⟩ : ∃ P, (l.drop 8).take n = P := ⟨_, rfl⟩
        obtain ⟨R, hR⟩ : ∃ R, l.drop (8 + n) = R := ⟨_, rfl⟩
        obtain ⟨F, hF⟩ : ∃ F, l.take 4 = F := ⟨_, rfl⟩
        have hPl : P.length = n := by rw [← hP, List.length_take, List.length_drop]; omega
        have hFl : F.length = 4 := by rw [← hF, List.length_take]; omega
        obtain ⟨TP, hTP⟩ : ∃ T : ByteArray, ⟨P.toArray⟩ = T := ⟨_, rfl⟩
        obtain ⟨TR, hTR⟩ : ∃ T : ByteArray, ⟨R.toArray⟩ = T := ⟨_, rfl⟩
        obtain ⟨TF, hTF⟩ : ∃ T : ByteArray, ⟨F.toArray⟩ = T := ⟨_, rfl⟩
        obtain ⟨TC, hTC⟩ : ∃ T : ByteArray, ⟨(F ++ P).toArray⟩ = T := ⟨_, rfl⟩
        have s1 := sl_mid S 8 (8 + n) 8 (8 + (n : Int)) rfl (by omega) (by omega) (by omega)
        have s2 := sl_to S 4 4 rfl (by omega)
        have s3 := sl_from S (8 + n) (8 + (n : Int)) (by omega) (by omega)
        rw [hSd, Nat.add_sub_cancel_left, hP, hTP] at s1
        rw [hSd, hF, hTF] at s2
        rw [hSd, hR, hTR] at s3
        have hcat : TF ++ TP = TC := by rw [← hTF, ← hTP, ← hTC]; exact bytes_app _ _
        have hcl : TF.size + TP.size ≤ 9223372036854775807 := by rw [← hTF, ← hTP, Lib.size_eq, Lib.size_eq]; simp; omega
        obtain ⟨c, hc⟩ : ∃ c, crcL (F ++ P) = c := ⟨_, rfl⟩
        have hcz : (c : Int) < 4294967296 := by have := crcL_lt (F ++ P); omega
        have C3 : Hid (∀ W, Calls Tryz.prog 72 #[.string TC] W fun r w' => r = .returned (.int .u32 c) ∧ W = w') := Lib.hid (fun W => by
          have h := CC TC W (by rw [← hTC, Lib.size_eq]; simp [maxLen]; omega)
          have e : TC.data.toList = F ++ P := by rw [← hTC]
          rw [e, hc] at h
          exact h)
        by_cases hmc : m = c
        · have HV : Hid (nextV l = .returned (.tuple #[.string TP, .string TR, .int .i64 0])) := Lib.hid (by
            unfold nextV nextL
            rw [if_neg (by omega), hn, if_neg h1, hz, if_neg h2, hm4, hF, hP, hR, hc, if_pos hmc, ← hTP, ← hTR]
            rfl)
          have hmcz : ((m : Int) != (c : Int)) = false := by rw [hmc]; simp
          have hqs : (q : Int) + 8 ≤ 9223372036854775807 := by omega
          clear h8 h1 h2 hz hm HSz hSd hsz hS hn hm4 hml hnl hP hR hF hPl hFl hTP hTR hTF hTC hc hmc
          go_enter Tryz.func79, Tryz.ntmps79
          repeat (first | (go_at_call_of 108 (Value.int IntKind.i64 0); refine (C1.out _).mono ?_; rintro r w1 ⟨rfl, hb1⟩; simp only []; have HB1 := Lib.hid hb1; clear hb1) | go_skip | go_guarded | go_step | go_upon)
          have D2 := Lib.hid (reg_of (w := w1) (fun W _ => C2.out W))
          have D3 := Lib.hid (reg_of (w := w1) (fun W _ => (C3.out W).mono fun r w' h => ⟨h.1, h.2 ▸ Below.refl _ _⟩))
          with_reducible refine wp_region_quiet_below (by kernel_rfl) (by kernel_rfl) ?_
          repeat (go_big_quiet_step (first | (go_at_call 108; exact D2.out _ _) | (go_at_call 72; exact D3.out _ _)))
          refine wpQuiet_nil ?_
          intro _ hw'
          obtain ⟨⟨dq, osq⟩, hw''⟩ := hw'
          subst hw''
          have HB2 : Hid (Below w.heap.size w (Go.Sort.grow (redrawn w1 dq) osq)) := Lib.hid (Below.trans HB1.out ((below_regrown w1 dq osq).mono HB1.out.size))
          generalize Go.Sort.grow (redrawn w1 dq) osq = w2 at HB2 ⊢
          repeat (first | go_skip | go_guarded | go_step | go_upon)
          go_quiet (fail)
          rename_i nq
          have HB3 : Hid (Below w.heap.size w (w2.drewN nq)) := Lib.hid ⟨HB2.out.os, HB2.out.tape, HB2.out.output, HB2.out.size, HB2.out.block⟩
          generalize w2.drewN nq = w3 at HB3 ⊢
          repeat (first | go_skip | go_guarded | go_step | go_upon)
          go_ret3
          exact ⟨HV.out.symm, HB3.out⟩
        · have HV : Hid (nextV l = .returned (.tuple #[.string ⟨#[]⟩, .string ⟨#[]⟩, .int .i64 51])) := Lib.hid (by
            unfold nextV nextL
            rw [if_neg (by omega), hn, if_neg h1, hz, if_neg h2, hm4, hF, hP, hc, if_neg hmc]
            rfl)
          have hmcz : ((m : Int) != (c : Int)) = true := by simp; omega
          have hqs : (q : Int) + 8 ≤ 9223372036854775807 := by omega
          clear h8 h1 h2 hz hm HSz hSd hsz hS hn hm4 hml hnl hP hR hF hPl hFl hTP hTR hTF hTC hc hmc
          go_enter Tryz.func79, Tryz.ntmps79
          repeat (first | (go_at_call_of 108 (Value.int IntKind.i64 0); refine (C1.out _).mono ?_; rintro r w1 ⟨rfl, hb1⟩; simp only []; have HB1 := Lib.hid hb1; clear hb1) | go_skip | go_guarded | go_step | go_upon)
          have D2 := Lib.hid (reg_of (w := w1) (fun W _ => C2.out W))
          have D3 := Lib.hid (reg_of (w := w1) (fun W _ => (C3.out W).mono fun r w' h => ⟨h.1, h.2 ▸ Below.refl _ _⟩))
          with_reducible refine wp_region_quiet_below (by kernel_rfl) (by kernel_rfl) ?_
          repeat (go_big_quiet_step (first | (go_at_call 108; exact D2.out _ _) | (go_at_call 72; exact D3.out _ _)))
          refine wpQuiet_nil ?_
          intro _ hw'
          obtain ⟨⟨dq, osq⟩, hw''⟩ := hw'
          subst hw''
          have HB2 : Hid (Below w.heap.size w (Go.Sort.grow (redrawn w1 dq) osq)) := Lib.hid (Below.trans HB1.out ((below_regrown w1 dq osq).mono HB1.out.size))
          generalize Go.Sort.grow (redrawn w1 dq) osq = w2 at HB2 ⊢
          repeat (first | go_skip | go_guarded | go_step | go_upon)
          go_ret3
          exact ⟨by rw [HV.out]; rfl, HB2.out⟩
end RQ
end Go.Proofs.YtiggdojppfblkaaGreatDoor
