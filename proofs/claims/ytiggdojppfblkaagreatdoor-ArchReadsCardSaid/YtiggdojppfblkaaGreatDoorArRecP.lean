/- Layer 5: the contracts of the program's sum, Pack. -/
import Derived.Test.YtiggdojppfblkaaGreatDoorArRecF
namespace Go.Proofs.YtiggdojppfblkaaGreatDoor
open Go.RowKit Go.Lib Go.BigFrame
namespace RF
open HP HS RP OM RQ HCr
open HC (Env crc_any)

set_option maxRecDepth 100000 in
set_option maxHeartbeats 1600000 in
theorem sum_any (a b : List UInt8) (w : World) (he : Env w) (hm : a.length + b.length ≤ maxLen) :
    Calls Tryz.prog 70 #[txt a, txt b] w fun r w' => r = .returned (.int .u32 (crcL (a ++ b) : Nat)) ∧ w = w' := by
  unfold txt
  obtain ⟨TA, hTA⟩ : ∃ T : ByteArray, ⟨a.toArray⟩ = T := ⟨_, rfl⟩
  obtain ⟨TB, hTB⟩ : ∃ T : ByteArray, ⟨b.toArray⟩ = T := ⟨_, rfl⟩
  obtain ⟨TC, hTC⟩ : ∃ T : ByteArray, ⟨(a ++ b).toArray⟩ = T := ⟨_, rfl⟩
  have hcat : TA ++ TB = TC := by rw [← hTA, ← hTB, ← hTC]; exact bytes_app _ _
  have hcl : TA.size + TB.size ≤ 9223372036854775807 := by rw [← hTA, ← hTB, Lib.size_eq, Lib.size_eq]; unfold maxLen at hm; simpa using hm
  have hd : TC.data.toList = a ++ b := by rw [← hTC]
  have cC := crc_any TC w he (by rw [Lib.size_eq, hd, List.length_append]; exact hm)
  rw [hd] at cC
  have CC := Lib.hid cC
  rw [hTA, hTB]
  clear cC hd hTA hTB hTC hm he
  go_enter Tryz.func70, Tryz.ntmps70
  go_wp2_with (go_at_call 100; refine CC.out.mono ?_; rintro r w1 ⟨rfl, rfl⟩)
  go_ret
  exact ⟨rfl, rfl⟩
def packV (l : List UInt8) : Ending := .returned (.tuple #[txt (packT l), .int .i64 (packE l : Nat)])
set_option maxRecDepth 100000 in
set_option maxHeartbeats 1600000 in
theorem pack_any (l : List UInt8) (w : World) (he : Env w) (hm : l.length ≤ maxLen) :
    Calls Tryz.prog 36 #[txt l] w fun r w' => r = packV l ∧ Below w.heap.size w w' := by
  have hsz : (⟨l.toArray⟩ : ByteArray).size = l.length := by rw [Lib.size_eq]
  obtain ⟨T, hT⟩ : ∃ T : ByteArray, ⟨l.toArray⟩ = T := ⟨_, rfl⟩
  by_cases h : l.length ≤ MaxP
  · have e1 : packT l = packL l := by unfold packT; rw [if_pos h]
    have e2 : packE l = 0 := by unfold packE; rw [if_pos h]
    unfold MaxP at h
    obtain ⟨n, hn⟩ : ∃ n, l.length = n := ⟨_, rfl⟩
    obtain ⟨F, hF⟩ : ∃ F : List UInt8, be4 n = F := ⟨_, rfl⟩
    have hFl : F.length = 4 := by rw [← hF, be4_len]
    obtain ⟨c, hc⟩ : ∃ c, crcL (F ++ l) = c := ⟨_, rfl⟩
    obtain ⟨G, hG⟩ : ∃ G : List UInt8, be4 c = G := ⟨_, rfl⟩
    have hGl : G.length = 4 := by rw [← hG, be4_len]
    have hPL : packL l = F ++ G ++ l := by unfold packL; rw [hn, hF, hc, hG]
    obtain ⟨TF, hTF⟩ : ∃ T : ByteArray, ⟨F.toArray⟩ = T := ⟨_, rfl⟩
    obtain ⟨TG, hTG⟩ : ∃ T : ByteArray, ⟨G.toArray⟩ = T := ⟨_, rfl⟩
    obtain ⟨TFG, hTFG⟩ : ∃ T : ByteArray, ⟨(F ++ G).toArray⟩ = T := ⟨_, rfl⟩
    obtain ⟨TP, hTP⟩ : ∃ T : ByteArray, ⟨(F ++ G ++ l).toArray⟩ = T := ⟨_, rfl⟩
    have C1 : Hid (∀ W, Calls Tryz.prog 69 #[.int .u32 n] W fun r w' => r = .returned (.string TF) ∧ Below W.heap.size W w') := Lib.hid (fun W => by
      have h := written_any n W (by omega)
      rw [hF, hTF] at h
      exact h)
    have hcl := crcL_lt (F ++ l)
    rw [hc] at hcl
    have C2 : Hid (∀ W, Calls Tryz.prog 69 #[.int .u32 c] W fun r w' => r = .returned (.string TG) ∧ Below W.heap.size W w') := Lib.hid (fun W => by
      have h := written_any c W hcl
      rw [hG, hTG] at h
      exact h)
    have C3 : Hid (∀ W, Below w.heap.size w W → Calls Tryz.prog 70 #[.string TF, .string T] W fun r w' => r = .returned (.int .u32 c) ∧ Below W.heap.size W w') := Lib.hid (fun W hW => by
      have h := sum_any F l W (he.below hW) (by unfold maxLen; omega)
      unfold txt at h
      rw [hc, hTF, hT] at h
      exact h.mono fun r w' hh => ⟨hh.1, hh.2 ▸ Below.refl _ _⟩)
    have b2 : TF ++ TG = TFG := by rw [← hTF, ← hTG, ← hTFG]; exact bytes_app _ _
    have b3 : TFG ++ T = TP := by rw [← hTFG, ← hT, ← hTP]; exact bytes_app _ _
    have z1 : TF.size = 4 := by rw [← hTF, Lib.size_eq]; exact hFl
    have z2 : TG.size = 4 := by rw [← hTG, Lib.size_eq]; exact hGl
    have z3 : TFG.size = 8 := by rw [← hTFG, Lib.size_eq]; simp [hFl, hGl]
    have z4 : T.size = n := by rw [← hT, Lib.size_eq]; exact hn
    have hnz : ¬ (1048576 : Int) < n := by omega
    have hnz2 : (n : Int) < 4294967296 := by omega
    have hs1 : TF.size + TG.size ≤ 9223372036854775807 := by omega
    have hs2 : TFG.size + T.size ≤ 9223372036854775807 := by omega
    have HV : Hid (packV l = .returned (.tuple #[.string TP, .int .i64 0])) := Lib.hid (by unfold packV; rw [e1, e2, hPL]; unfold txt; rw [hTP]; rfl)
    unfold txt
    rw [hT]
    clear he hm hsz hT h e1 e2 hn hF hFl hc hG hGl hPL hTF hTG hTFG hTP hcl
    go_enter Tryz.func36, Tryz.ntmps36
    repeat (first | (go_at_call_of 69 (Value.int IntKind.u32 n); refine (C1.out _).mono ?_; rintro r w1 ⟨rfl, hb1⟩; simp only []; have HB1 := Lib.hid hb1; clear hb1) | (go_at_call_of 69 (Value.int IntKind.u32 c); refine (C2.out _).mono ?_; rintro r w2 ⟨rfl, hb2⟩; simp only []; have HB2 := Lib.hid hb2; clear hb2) | (go_at_call 70; refine (C3.out _ HB1.out).mono ?_; rintro r w3 ⟨rfl, hb3⟩; simp only []; have HB3 := Lib.hid (Below.trans HB1.out (hb3.mono HB1.out.size)); clear hb3) | go_skip | go_guarded | go_step | go_upon)
    go_ret2
    exact ⟨HV.out.symm, Below.trans HB3.out (HB2.out.mono HB3.out.size)⟩
  · have e1 : packT l = [] := by unfold packT; rw [if_neg h]
    have e2 : packE l = 32 := by unfold packE; rw [if_neg h]
    have HV : Hid (packV l = .returned (.tuple #[.string ⟨#[]⟩, .int .i64 32])) := Lib.hid (by unfold packV; rw [e1, e2]; rfl)
    unfold MaxP at h
    have hlz : ¬ (T.size : Int) ≤ 1048576 := by rw [← hT, hsz]; omega
    unfold maxLen at hm
    have hlm : (T.size : Int) ≤ 9223372036854775807 := by rw [← hT, hsz]; omega
    unfold txt
    rw [hT]
    clear he hm hsz hT h e1 e2
    go_enter Tryz.func36, Tryz.ntmps36
    go_wp2
    go_ret2
    exact ⟨by rw [HV.out]; rfl, Below.refl _ _⟩
end RF
end Go.Proofs.YtiggdojppfblkaaGreatDoor
