/- Layer 15: the contracts of the program's sum, messageSum, frame, More. -/
import Derived.Test.YtbklnijmalnnoaaDoorQLnMem
set_option linter.all false
set_option maxRecDepth 100000
set_option maxHeartbeats 25600000
namespace Go.Proofs.YtbklnijmalnnoaaDoor
open Go.RowKit Go.Lib Go.BigFrame
namespace LN
open HP HS RP LP OM RQ HR RF
open HQ (Env crc_any)

set_option maxRecDepth 100000 in
set_option maxHeartbeats 1600000 in
theorem sum_any (s : List UInt8) (w : World) (he : Env w) (hm : s.length ≤ maxLen) :
    Calls Tryd.prog 28 #[txt s] w fun r w' => r = .returned (txt (be4 (crcL s))) ∧ Below w.heap.size w w' := by
  unfold txt
  obtain ⟨T, hT⟩ : ∃ T : ByteArray, ⟨s.toArray⟩ = T := ⟨_, rfl⟩
  have hd : T.data.toList = s := by rw [← hT]
  obtain ⟨c, hc⟩ : ∃ c, crcL s = c := ⟨_, rfl⟩
  have cC := crc_any T w he (by rw [Lib.size_eq, hd]; exact hm)
  rw [hd, hc] at cC
  have hcl := crcL_lt s
  rw [hc] at hcl
  obtain ⟨G, hG⟩ : ∃ T : ByteArray, ⟨(be4 c).toArray⟩ = T := ⟨_, rfl⟩
  have cW := written_any c w hcl
  rw [hG] at cW
  have CC := Lib.hid cC
  have CW := Lib.hid cW
  rw [hT, hc, hG]
  clear cC cW hd hT hG hm he hc
  go_enter Tryd.func28, Tryd.ntmps28
  repeat (first | (go_at_call 34; refine CC.out.mono ?_; rintro r w1 ⟨rfl, rfl⟩; simp only []) | (go_at_call 27; refine CW.out.mono ?_; rintro r w1 ⟨rfl, hb⟩; simp only []; have HB := Lib.hid hb; clear hb) | go_skip | go_guarded | go_step | go_upon)
  go_ret
  exact ⟨rfl, HB.out⟩
set_option maxRecDepth 100000 in
set_option maxHeartbeats 1600000 in
theorem msum_any (n : Nat) (s : List UInt8) (w : World) (he : Env w) (hn : n < 4294967296) (hm : s.length ≤ 140737488355328) :
    Calls Tryd.prog 29 #[.int .u32 n, txt s] w fun r w' => r = .returned (txt (be4 (crcL (be4 n ++ s)))) ∧ Below w.heap.size w w' := by
  obtain ⟨F, hF⟩ : ∃ F, be4 n = F := ⟨_, rfl⟩
  have hFl : F.length = 4 := by rw [← hF, be4_len]
  have cW := written_any n w hn
  have cS := fun W (hb : Below w.heap.size w W) => sum_any (F ++ s) W (he.below hb) (by rw [List.length_append]; unfold maxLen; omega)
  unfold txt at cS ⊢
  rw [hF] at cW ⊢
  obtain ⟨T, hT⟩ : ∃ T : ByteArray, ⟨s.toArray⟩ = T := ⟨_, rfl⟩
  obtain ⟨TF, hTF⟩ : ∃ T : ByteArray, ⟨F.toArray⟩ = T := ⟨_, rfl⟩
  obtain ⟨TC, hTC⟩ : ∃ T : ByteArray, ⟨(F ++ s).toArray⟩ = T := ⟨_, rfl⟩
  obtain ⟨G, hG⟩ : ∃ T : ByteArray, ⟨(be4 (crcL (F ++ s))).toArray⟩ = T := ⟨_, rfl⟩
  have hcat : TF ++ T = TC := by rw [← hTF, ← hT, ← hTC]; exact bytes_app _ _
  have hcl : TF.size + T.size ≤ 9223372036854775807 := by rw [← hTF, ← hT, Lib.size_eq, Lib.size_eq]; simp only []; omega
  rw [hTF] at cW
  rw [hTC, hG] at cS
  have CW := Lib.hid cW
  have CS := Lib.hid cS
  rw [hT, hG]
  clear cW cS hF hFl hT hTF hTC hG hm he
  have hnz : (n : Int) < 4294967296 := by omega
  go_enter Tryd.func29, Tryd.ntmps29
  repeat (first | (go_at_call 27; refine CW.out.mono ?_; rintro r w1 ⟨rfl, hb⟩; simp only []; have HB := Lib.hid hb; clear hb) | (go_at_call 28; refine (CS.out _ HB.out).mono ?_; rintro r w2 ⟨rfl, hb⟩; simp only []; have HB2 := Lib.hid (Below.trans HB.out (hb.mono HB.out.size)); clear hb) | go_skip | go_guarded | go_step | go_upon)
  go_ret
  exact ⟨rfl, HB2.out⟩
set_option maxRecDepth 100000 in
set_option maxHeartbeats 1600000 in
theorem frame_any (n : Nat) (s : List UInt8) (w : World) (he : Env w) (hn : n < 4294967296) (hm : s.length ≤ MaxP) :
    Calls Tryd.prog 19 #[.int .u32 n, txt s] w fun r w' => r = .returned (txt (frameL n s)) ∧ Below w.heap.size w w' := by
  unfold MaxP at hm
  obtain ⟨z, hz⟩ : ∃ z, s.length = z := ⟨_, rfl⟩
  obtain ⟨F, hF⟩ : ∃ F, be4 z = F := ⟨_, rfl⟩
  have hFl : F.length = 4 := by rw [← hF, be4_len]
  have cW := written_any z w (by omega)
  have cS := fun W (hb : Below w.heap.size w W) => sum_any F W (he.below hb) (by unfold maxLen; omega)
  have cM := fun W (hb : Below w.heap.size w W) => msum_any n s W (he.below hb) hn (by omega)
  obtain ⟨G, hG⟩ : ∃ G, be4 (crcL F) = G := ⟨_, rfl⟩
  obtain ⟨M, hM⟩ : ∃ M, be4 (crcL (be4 n ++ s)) = M := ⟨_, rfl⟩
  have hGl : G.length = 4 := by rw [← hG, be4_len]
  have hMl : M.length = 4 := by rw [← hM, be4_len]
  have hL : frameL n s = F ++ G ++ M ++ s := by unfold frameL; rw [hz, hF, hG, hM]
  rw [hL]
  unfold txt at cS cM ⊢
  rw [hF] at cW
  rw [hG] at cS
  rw [hM] at cM
  obtain ⟨T, hT⟩ : ∃ T : ByteArray, ⟨s.toArray⟩ = T := ⟨_, rfl⟩
  obtain ⟨TF, hTF⟩ : ∃ T : ByteArray, ⟨F.toArray⟩ = T := ⟨_, rfl⟩
  obtain ⟨TG, hTG⟩ : ∃ T : ByteArray, ⟨G.toArray⟩ = T := ⟨_, rfl⟩
  obtain ⟨TM, hTM⟩ : ∃ T : ByteArray, ⟨M.toArray⟩ = T := ⟨_, rfl⟩
  obtain ⟨T1, hT1⟩ : ∃ T : ByteArray, ⟨(F ++ G).toArray⟩ = T := ⟨_, rfl⟩
  obtain ⟨T2, hT2⟩ : ∃ T : ByteArray, ⟨(F ++ G ++ M).toArray⟩ = T := ⟨_, rfl⟩
  obtain ⟨T3, hT3⟩ : ∃ T : ByteArray, ⟨(F ++ G ++ M ++ s).toArray⟩ = T := ⟨_, rfl⟩
  have b1 : TF ++ TG = T1 := by rw [← hTF, ← hTG, ← hT1]; exact bytes_app _ _
  have b2 : T1 ++ TM = T2 := by rw [← hT1, ← hTM, ← hT2]; exact bytes_app _ _
  have b3 : T2 ++ T = T3 := by rw [← hT2, ← hT, ← hT3]; exact bytes_app _ _
  have z0 : T.size = z := by rw [← hT, Lib.size_eq]; exact hz
  have z1 : TF.size = 4 := by rw [← hTF, Lib.size_eq]; exact hFl
  have z2 : TG.size = 4 := by rw [← hTG, Lib.size_eq]; exact hGl
  have z3 : TM.size = 4 := by rw [← hTM, Lib.size_eq]; exact hMl
  have z4 : T1.size = 8 := by rw [← hT1, Lib.size_eq]; simp [hFl, hGl]
  have z5 : T2.size = 12 := by rw [← hT2, Lib.size_eq]; simp [hFl, hGl, hMl]
  have s1 : TF.size + TG.size ≤ 9223372036854775807 := by omega
  have s2 : T1.size + TM.size ≤ 9223372036854775807 := by omega
  have s3 : T2.size + T.size ≤ 9223372036854775807 := by omega
  rw [hTF] at cW
  rw [hTF, hTG] at cS
  rw [hT, hTM] at cM
  have CW := Lib.hid cW
  have CS := Lib.hid cS
  have CM := Lib.hid cM
  rw [hT, hT3]
  have hnz : (n : Int) < 4294967296 := by omega
  have hzz : (z : Int) < 4294967296 := by omega
  clear cW cS cM hF hFl hG hGl hM hMl hL hz hT hTF hTG hTM hT1 hT2 hT3 hm he hn
  go_enter Tryd.func19, Tryd.ntmps19
  repeat (first | (go_at_call 27; refine CW.out.mono ?_; rintro r w1 ⟨rfl, hb⟩; simp only []; have HB := Lib.hid hb; clear hb) | (go_at_call 28; refine (CS.out _ HB.out).mono ?_; rintro r w2 ⟨rfl, hb⟩; simp only []; have HB2 := Lib.hid (Below.trans HB.out (hb.mono HB.out.size)); clear hb) | (go_at_call 29; refine (CM.out _ HB2.out).mono ?_; rintro r w3 ⟨rfl, hb⟩; simp only []; have HB3 := Lib.hid (Below.trans HB2.out (hb.mono HB2.out.size)); clear hb) | go_skip | go_guarded | go_step | go_upon)
  go_ret
  exact ⟨rfl, HB3.out⟩
set_option maxRecDepth 100000 in
set_option maxHeartbeats 1600000 in
theorem long_any (s : List UInt8) (w : World) (hm : s.length ≤ maxLen) :
    Calls Tryd.prog 17 #[txt s] w fun r w' => r = .returned (.bool (decide (MaxP < s.length))) ∧ w = w' := by
  unfold maxLen at hm
  unfold txt MaxP
  obtain ⟨T, hT⟩ : ∃ T : ByteArray, ⟨s.toArray⟩ = T := ⟨_, rfl⟩
  have hz : T.size = s.length := by rw [← hT, Lib.size_eq]
  obtain ⟨z, hzz⟩ : ∃ z, s.length = z := ⟨_, rfl⟩
  rw [hzz] at hz hm
  rw [hT, hzz]
  clear hT hzz
  go_enter Tryd.func17, Tryd.ntmps17
  repeat (first | go_skip | go_guarded | go_step | go_upon)
  go_ret
  refine ⟨?_, rfl⟩
  congr 2
  by_cases h : 1048576 < z
  · rw [decide_eq_true h]; simp; omega
  · rw [decide_eq_false h]; simp; omega
/-- The message's frame, and what is wrong. -/
def moreT (n : Int) (s : List UInt8) : List UInt8 := if 0 ≤ n ∧ n < 4294967296 ∧ s.length ≤ MaxP then frameL n.toNat s else []
def moreE (n : Int) (s : List UInt8) : Nat := if 0 ≤ n ∧ n < 4294967296 ∧ s.length ≤ MaxP then 0 else 32
def moreV (n : Int) (s : List UInt8) : Ending := .returned (.tuple #[txt (moreT n s), .int .i64 (moreE n s : Nat)])
end LN
end Go.Proofs.YtbklnijmalnnoaaDoor
