/- Layer 15: the contracts of the document's More, Pack. -/
import Derived.Test.YtbklnijmalnnoaaDoorQLnPk
set_option linter.all false
set_option maxRecDepth 100000
set_option maxHeartbeats 25600000
namespace Go.Proofs.YtbklnijmalnnoaaDoor
open Go.RowKit Go.Lib Go.BigFrame
namespace LN
open HP HS RP LP OM RQ HR RF

theorem crc_of : CrcOf := fun s w h => rcrc_any s w h
set_option maxRecDepth 100000 in
set_option maxHeartbeats 1600000 in
theorem rmore_any (n : Int) (s : List UInt8) (w : World) (h0 : -9223372036854775808 ≤ n) (h1 : n ≤ 9223372036854775807) (hm : s.length ≤ maxLen) :
    Calls Tryd.prog 15 #[.int .i64 n, txt s] w fun r w' => r = moreV n s ∧ Below w.heap.size w w' := by
  unfold maxLen at hm
  obtain ⟨T, hT⟩ : ∃ T : ByteArray, ⟨s.toArray⟩ = T := ⟨_, rfl⟩
  obtain ⟨z, hz⟩ : ∃ z, s.length = z := ⟨_, rfl⟩
  have hTz : T.size = z := by rw [← hT, Lib.size_eq]; exact hz
  by_cases hc : 0 ≤ n ∧ n < 4294967296 ∧ s.length ≤ MaxP
  · obtain ⟨k, rfl⟩ : ∃ k : Nat, n = k := ⟨n.toNat, by omega⟩
    have HV : Hid (moreV k s = .returned (.tuple #[txt (frameL k s), .int .i64 0])) := Lib.hid (by
      unfold moreV moreT moreE
      rw [if_pos hc, if_pos hc, Int.toNat_natCast]
      rfl)
    unfold MaxP at hc
    have hk : k < 4294967296 := by omega
    obtain ⟨F, hF⟩ : ∃ F, be4 z = F := ⟨_, rfl⟩
    have hFl : F.length = 4 := by rw [← hF, be4_len]
    obtain ⟨c, hcc⟩ : ∃ c, crcL F = c := ⟨_, rfl⟩
    obtain ⟨G, hG⟩ : ∃ G, be4 c = G := ⟨_, rfl⟩
    have hGl : G.length = 4 := by rw [← hG, be4_len]
    obtain ⟨N, hN⟩ : ∃ N, be4 k = N := ⟨_, rfl⟩
    have hNl : N.length = 4 := by rw [← hN, be4_len]
    obtain ⟨m, hmm⟩ : ∃ m, crcL (N ++ s) = m := ⟨_, rfl⟩
    obtain ⟨M, hM⟩ : ∃ M, be4 m = M := ⟨_, rfl⟩
    have hMl : M.length = 4 := by rw [← hM, be4_len]
    have hL : frameL k s = F ++ G ++ M ++ s := by unfold frameL; rw [hz, hF, hcc, hG, hN, hmm, hM]
    have hcl := crcL_lt F
    have hml := crcL_lt (N ++ s)
    rw [hcc] at hcl
    rw [hmm] at hml
    obtain ⟨TF, hTF⟩ : ∃ T : ByteArray, ⟨F.toArray⟩ = T := ⟨_, rfl⟩
    obtain ⟨TG, hTG⟩ : ∃ T : ByteArray, ⟨G.toArray⟩ = T := ⟨_, rfl⟩
    obtain ⟨TN, hTN⟩ : ∃ T : ByteArray, ⟨N.toArray⟩ = T := ⟨_, rfl⟩
    obtain ⟨TM, hTM⟩ : ∃ T : ByteArray, ⟨M.toArray⟩ = T := ⟨_, rfl⟩
    obtain ⟨TNs, hTNs⟩ : ∃ T : ByteArray, ⟨(N ++ s).toArray⟩ = T := ⟨_, rfl⟩
    obtain ⟨T1, hT1⟩ : ∃ T : ByteArray, ⟨(F ++ G).toArray⟩ = T := ⟨_, rfl⟩
    obtain ⟨T2, hT2⟩ : ∃ T : ByteArray, ⟨(F ++ G ++ M).toArray⟩ = T := ⟨_, rfl⟩
    obtain ⟨T3, hT3⟩ : ∃ T : ByteArray, ⟨(F ++ G ++ M ++ s).toArray⟩ = T := ⟨_, rfl⟩
    have b0 : TN ++ T = TNs := by rw [← hTN, ← hT, ← hTNs]; exact bytes_app _ _
    have b1 : TF ++ TG = T1 := by rw [← hTF, ← hTG, ← hT1]; exact bytes_app _ _
    have b2 : T1 ++ TM = T2 := by rw [← hT1, ← hTM, ← hT2]; exact bytes_app _ _
    have b3 : T2 ++ T = T3 := by rw [← hT2, ← hT, ← hT3]; exact bytes_app _ _
    have z1 : TF.size = 4 := by rw [← hTF, Lib.size_eq]; exact hFl
    have z2 : TG.size = 4 := by rw [← hTG, Lib.size_eq]; exact hGl
    have z3 : TM.size = 4 := by rw [← hTM, Lib.size_eq]; exact hMl
    have z4 : T1.size = 8 := by rw [← hT1, Lib.size_eq]; simp [hFl, hGl]
    have z5 : T2.size = 12 := by rw [← hT2, Lib.size_eq]; simp [hFl, hGl, hMl]
    have z6 : TN.size = 4 := by rw [← hTN, Lib.size_eq]; exact hNl
    have s0 : TN.size + T.size ≤ 9223372036854775807 := by omega
    have s1 : TF.size + TG.size ≤ 9223372036854775807 := by omega
    have s2 : T1.size + TM.size ≤ 9223372036854775807 := by omega
    have s3 : T2.size + T.size ≤ 9223372036854775807 := by omega
    have C1 : Hid (∀ W, Calls Tryd.prog 23 #[.int .u32 z] W fun r w' => r = .returned (.string TF) ∧ Below W.heap.size W w') := Lib.hid (fun W => by
      have h := rfour_any z W (by omega)
      rw [hF, hTF] at h
      exact h)
    have C2 : Hid (∀ W, Calls Tryd.prog 23 #[.int .u32 c] W fun r w' => r = .returned (.string TG) ∧ Below W.heap.size W w') := Lib.hid (fun W => by
      have h := rfour_any c W hcl
      rw [hG, hTG] at h
      exact h)
    have C3 : Hid (∀ W, Calls Tryd.prog 23 #[.int .u32 k] W fun r w' => r = .returned (.string TN) ∧ Below W.heap.size W w') := Lib.hid (fun W => by
      have h := rfour_any k W hk
      rw [hN, hTN] at h
      exact h)
    have C4 : Hid (∀ W, Calls Tryd.prog 23 #[.int .u32 m] W fun r w' => r = .returned (.string TM) ∧ Below W.heap.size W w') := Lib.hid (fun W => by
      have h := rfour_any m W hml
      rw [hM, hTM] at h
      exact h)
    have D1 : Hid (∀ W, Calls Tryd.prog 24 #[.string TF] W fun r w' => r = .returned (.int .u32 c) ∧ W = w') := Lib.hid (fun W => by
      have e : TF.data.toList = F := by rw [← hTF]
      have h := crc_of TF W (by rw [z1]; unfold maxLen; decide)
      rw [e, hcc] at h
      exact h)
    have D2 : Hid (∀ W, Calls Tryd.prog 24 #[.string TNs] W fun r w' => r = .returned (.int .u32 m) ∧ W = w') := Lib.hid (fun W => by
      have e : TNs.data.toList = N ++ s := by rw [← hTNs]
      have h := crc_of TNs W (by rw [Lib.size_eq, e, List.length_append]; unfold maxLen; omega)
      rw [e, hmm] at h
      exact h)
    have hzz : (z : Int) ≤ 1048576 := by omega
    have hnz : ¬ ((1048576 : Int) < z) := by omega
    have hk0 : ¬ ((k : Int) < 0) := by omega
    have hk1 : ¬ ((4294967295 : Int) < k) := by omega
    have hk2 : (k : Int) < 4294967296 := by omega
    rw [hL] at HV
    unfold txt at HV ⊢
    rw [hT3] at HV
    rw [hT]
    clear hF hFl hcc hG hGl hN hNl hmm hM hMl hL hcl hml hTF hTG hTN hTM hTNs hT1 hT2 hT3 hT hz hc h0 h1 hm
    go_enter Tryd.func15, Tryd.ntmps15
    repeat (first
      | (go_at_call_of 23 (Value.int IntKind.u32 z); refine (C1.out _).mono ?_; rintro r w1 ⟨rfl, hb⟩; simp only []; have B1 := Lib.hid hb; clear hb)
      | (go_at_call_of 23 (Value.int IntKind.u32 c); refine (C2.out _).mono ?_; rintro r w2 ⟨rfl, hb⟩; simp only []; have B2 := Lib.hid (Below.trans B1.out (hb.mono B1.out.size)); clear hb)
      | (go_at_call_of 23 (Value.int IntKind.u32 k); refine (C3.out _).mono ?_; rintro r w3 ⟨rfl, hb⟩; simp only []; have B3 := Lib.hid (Below.trans B2.out (hb.mono B2.out.size)); clear hb)
      | (go_at_call_of 23 (Value.int IntKind.u32 m); refine (C4.out _).mono ?_; rintro r w4 ⟨rfl, hb⟩; simp only []; have B4 := Lib.hid (Below.trans B3.out (hb.mono B3.out.size)); clear hb)
      | (go_at_call_of 24 (Value.string TF); refine (D1.out _).mono ?_; rintro r w5 ⟨rfl, rfl⟩; simp only [])
      | (go_at_call_of 24 (Value.string TNs); refine (D2.out _).mono ?_; rintro r w5 ⟨rfl, rfl⟩; simp only [])
      | go_skip | go_guarded | go_step | go_upon)
    go_ret2
    exact ⟨HV.out.symm, B4.out⟩
  · have HV : Hid (moreV n s = .returned (.tuple #[.string ⟨#[]⟩, .int .i64 32])) := Lib.hid (by
      unfold moreV moreT moreE
      rw [if_neg hc, if_neg hc]
      rfl)
    unfold MaxP at hc
    have hzm : (z : Int) ≤ 9223372036854775807 := by omega
    unfold txt
    rw [hT]
    rw [hz] at hc
    clear hT hz hm
    by_cases a1 : (1048576 : Int) < z
    · clear hc
      go_enter Tryd.func15, Tryd.ntmps15
      repeat (first | go_skip | go_guarded | go_step | go_upon)
      go_ret2
      exact ⟨by rw [HV.out]; rfl, Below.refl _ _⟩
    · by_cases a2 : n < 0
      · clear hc
        go_enter Tryd.func15, Tryd.ntmps15
        repeat (first | go_skip | go_guarded | go_step | go_upon)
        go_ret2
        exact ⟨by rw [HV.out]; rfl, Below.refl _ _⟩
      · have a3 : (4294967295 : Int) < n := by omega
        clear hc
        go_enter Tryd.func15, Tryd.ntmps15
        repeat (first | go_skip | go_guarded | go_step | go_upon)
        go_ret2
        exact ⟨by rw [HV.out]; rfl, Below.refl _ _⟩
/-- The loop's state: the first k are joined. -/
def QPack (ls : List (List UInt8)) (w : World) (s4 s5 _s6 _s7 : Value) (wr : World) : Prop :=
  ∃ k : Nat, s5 = .int .i64 k ∧ k ≤ ls.length ∧ s4 = txt (framesL 0 (ls.take k)) ∧ badT (ls.take k) = false ∧ Below w.heap.size w wr
theorem badT_snoc {ls : List (List UInt8)} {k : Nat} {x : List UInt8} (hx : ls[k]? = some x) : badT (ls.take (k + 1)) = (badT (ls.take k) || decide (MaxP < x.length)) := by
  rw [take_snoc hx]
  unfold badT
  rw [List.any_append]
  simp
theorem moreV_no {n : Int} {s : List UInt8} (hs : MaxP < s.length) : moreV n s = .returned (.tuple #[.string ⟨#[]⟩, .int .i64 32]) := by
  have hc : ¬ (0 ≤ n ∧ n < 4294967296 ∧ s.length ≤ MaxP) := by omega
  unfold moreV moreT moreE
  rw [if_neg hc, if_neg hc]
  rfl
theorem moreV_yes {n : Nat} {s : List UInt8} (hn : n < 4294967296) (hs : s.length ≤ MaxP) : moreV (n : Int) s = .returned (.tuple #[txt (frameL n s), .int .i64 0]) := by
  have hc : 0 ≤ (n : Int) ∧ (n : Int) < 4294967296 ∧ s.length ≤ MaxP := by omega
  unfold moreV moreT moreE
  rw [if_pos hc, if_pos hc, Int.toNat_natCast]
  rfl
set_option maxRecDepth 100000 in
set_option maxHeartbeats 3200000 in
theorem rpack_any (ao : Option Addr) (cap : Nat) (ls : List (List UInt8)) (w : World) (h : Lay w ao ls) (hm : (framesL 0 ls).length ≤ 1073741824) :
    Calls Tryd.prog 8 #[.slice ao ls.length cap] w fun r w' => r = packV ls ∧ Below w.heap.size w w' := by
  obtain ⟨n, hn⟩ : ∃ n, ls.length = n := ⟨_, rfl⟩
  have hnm : n ≤ 1073741824 := by have := frames_count ls 0; omega
  have HN := Lib.hid hn
  have HL := Lib.hid h
  have HM := Lib.hid hm
  rw [hn]
  clear h hn hm
  go_enter Tryd.func8, Tryd.ntmps8
  repeat (first | go_skip | go_guarded | go_step | go_upon)
  go_loopw [4, 5, 6, 7] (QPack ls w) (fun _ s5 _ _ _ => n - (Go.RowKit.intOf s5).toNat)
  case atStart => exact ⟨0, rfl, Nat.zero_le _, rfl, rfl, Below.refl _ _⟩
  case round =>
    obtain ⟨k, rfl, hk, rfl, hbad, hb⟩ := hrel
    rw [HN.out] at hk
    have HB := Lib.hid hb
    have HBad := Lib.hid hbad
    have HT := Lib.hid (HL.out.below hb)
    have hbs := hb.size
    clear hb hbad
    obtain ⟨A, hA⟩ : ∃ A, framesL 0 (ls.take k) = A := ⟨_, rfl⟩
    obtain ⟨TA, hTA⟩ : ∃ T : ByteArray, ⟨A.toArray⟩ = T := ⟨_, rfl⟩
    unfold txt
    rw [hA, hTA]
    by_cases hlt : k < n
    · have hkz : (k : Int) < n := by omega
      obtain ⟨g, o, rfl, _, hc⟩ := HT.out (by rw [HN.out]; omega)
      obtain ⟨x, hx⟩ : ∃ x, ls[k]? = some x := ⟨ls[k]'(by rw [HN.out]; exact hlt), List.getElem?_eq_getElem _⟩
      have c0 := hc k x hx
      have hmem := List.mem_of_getElem? hx
      have hxl := frames_mem 0 hmem
      have cM := fun W => rmore_any (k : Int) x W (by omega) (by omega) (by have := HM.out; unfold maxLen; omega)
      have hfs := frames_snoc hx
      have hft := frames_take ls (k + 1)
      have hbs2 := badT_snoc hx
      rw [HBad.out, Bool.false_or] at hbs2
      unfold txt at c0 cM
      obtain ⟨TX, hTX⟩ : ∃ T : ByteArray, ⟨x.toArray⟩ = T := ⟨_, rfl⟩
      rw [hTX] at c0 cM
      by_cases hxm : x.length ≤ MaxP
      · rw [moreV_yes (by omega) hxm] at cM
        unfold txt at cM
        obtain ⟨F, hF⟩ : ∃ F, frameL k x = F := ⟨_, rfl⟩
        obtain ⟨TF, hTF⟩ : ∃ T : ByteArray, ⟨F.toArray⟩ = T := ⟨_, rfl⟩
        rw [hF, hTF] at cM
        rw [hA, hF] at hfs
        obtain ⟨TB, hTB⟩ : ∃ T : ByteArray, ⟨(A ++ F).toArray⟩ = T := ⟨_, rfl⟩
        have b1 : TA ++ TF = TB := by rw [← hTA, ← hTF, ← hTB]; exact bytes_app _ _
        have s1 : TA.size + TF.size ≤ 9223372036854775807 := by
          rw [hfs, List.length_append] at hft
          rw [← hTA, ← hTF, Lib.size_eq, Lib.size_eq]
          have := HM.out
          simp only []
          omega
        have HJ : Hid (txt (framesL 0 (ls.take (k + 1))) = .string TB) := Lib.hid (by unfold txt; rw [hfs, hTB])
        have HA2 : Hid (badT (ls.take (k + 1)) = false) := Lib.hid (by rw [hbs2, decide_eq_false (by omega)])
        have CM := Lib.hid cM
        clear cM hTX hTF hF hTB hTA hA hft hfs hxl hmem hx hc hxm hbs2
        repeat (first | (go_at_call 15; refine (CM.out _).mono ?_; rintro r w2 ⟨rfl, hb1⟩; simp only []; have HB1 := Lib.hid (Below.trans HB.out (hb1.mono hbs)); clear hb1) | go_skip | go_guarded | go_step | go_upon)
        refine ⟨⟨k + 1, by go_num, by rw [HN.out]; omega, HJ.out.symm, HA2.out, HB1.out⟩, ?_⟩
        simp [Go.RowKit.intOf]; omega
      · rw [moreV_no (by omega)] at cM
        have HV : Hid (packV ls = .returned (.tuple #[.string ⟨#[]⟩, .int .i64 32])) := Lib.hid (by
          have hb : badT ls = true := List.any_eq_true.2 ⟨x, hmem, decide_eq_true (by omega)⟩
          unfold packV packT packE
          rw [hb]
          rfl)
        have CM := Lib.hid cM
        clear cM hTX hTA hA hft hfs hxl hmem hx hc hxm hbs2
        repeat (first | (go_at_call 15; refine (CM.out _).mono ?_; rintro r w2 ⟨rfl, hb1⟩; simp only []; have HB1 := Lib.hid (Below.trans HB.out (hb1.mono hbs)); clear hb1) | go_skip | go_guarded | go_step | go_upon)
        go_ret2
        exact ⟨by rw [HV.out]; rfl, HB1.out⟩
    · have hkz : ¬ (k : Int) < n := by omega
      have ht : ls.take k = ls := List.take_of_length_le (by rw [HN.out]; omega)
      have HV : Hid (packV ls = .returned (.tuple #[.string TA, .int .i64 0])) := Lib.hid (by
        have hb := HBad.out
        rw [ht] at hb hA
        unfold packV packT packE
        rw [hb, if_neg (by simp), if_neg (by simp), hA]
        unfold txt
        rw [hTA]
        rfl)
      clear ht hlt hA hTA
      repeat (first | go_skip | go_guarded | go_step | go_upon)
      go_ret2
      exact ⟨by rw [HV.out]; rfl, HB.out⟩
end LN
end Go.Proofs.YtbklnijmalnnoaaDoor
