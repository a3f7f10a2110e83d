/- Layer 15: the contracts of the program's reader: over, take, takeFrame. -/
import Derived.Test.YtbklnijmalnnoaaDoorQLnFrm
set_option linter.all false
set_option maxRecDepth 100000
set_option maxHeartbeats 25600000
namespace Go.Proofs.YtbklnijmalnnoaaDoor
open Go.RowKit Go.Lib Go.BigFrame
namespace LN
open HP HS RP LP OM RQ HR RF
open HQ (Env crc_any)

set_option maxRecDepth 100000 in
set_option maxHeartbeats 1600000 in
theorem over_any (b : Nat) (s : List UInt8) (ls : List (List UInt8)) (w : World) (h : RdA b s ls w) :
    Calls Tryd.prog 30 #[ptr b] w fun r w' => r = .returned (.bool s.isEmpty) ∧ w = w' := by
  have c0 := h.c0
  unfold txt at c0
  obtain ⟨T, hT⟩ : ∃ T : ByteArray, ⟨s.toArray⟩ = T := ⟨_, rfl⟩
  have hTe : T.toList.isEmpty = s.isEmpty := by rw [Lib.toList_data, ← hT]
  rw [hT] at c0
  generalize s.isEmpty = e at hTe ⊢
  clear h hT
  go_enter Tryd.func30, Tryd.ntmps30
  repeat (first | go_skip | go_guarded | go_step | go_upon)
  go_ret
  exact ⟨rfl, rfl⟩
set_option maxRecDepth 100000 in
set_option maxHeartbeats 1600000 in
theorem take_yes (b : Nat) (s : List UInt8) (ls : List (List UInt8)) (k : Nat) (w : World) (h : RdA b s ls w) (hm : s.length ≤ maxLen) (hk : k ≤ s.length) :
    Calls Tryd.prog 35 #[ptr b, .int .i64 k] w fun r w' => r = .returned (.tuple #[txt (s.take k), .bool true]) ∧ w' = w.setCell ⟨b, 0, none⟩ (txt (s.drop k)) := by
  have c0 := h.c0
  have f0 := h.f0
  unfold maxLen at hm
  unfold txt at c0 ⊢
  obtain ⟨z, hz⟩ : ∃ z, s.length = z := ⟨_, rfl⟩
  obtain ⟨T, hT⟩ : ∃ T : ByteArray, ⟨s.toArray⟩ = T := ⟨_, rfl⟩
  have hd : T.data.toList = s := by rw [← hT]
  have hTz : T.size = z := by rw [Lib.size_eq, hd]; exact hz
  have s1 := sl_to T k k rfl (by omega)
  have s2 := sl_from T k k rfl (by omega)
  obtain ⟨T1, hT1⟩ : ∃ T : ByteArray, ⟨(s.take k).toArray⟩ = T := ⟨_, rfl⟩
  obtain ⟨T2, hT2⟩ : ∃ T : ByteArray, ⟨(s.drop k).toArray⟩ = T := ⟨_, rfl⟩
  rw [hd, hT1] at s1
  rw [hd, hT2] at s2
  rw [hT] at c0
  rw [hT1, hT2]
  have hkz : ¬ (z : Int) < k := by omega
  have hzl : (z : Int) ≤ 9223372036854775807 := by omega
  have hkl : (k : Int) ≤ 9223372036854775807 := by omega
  clear h hT hT1 hT2 hd hz hk hm
  go_enter Tryd.func35, Tryd.ntmps35
  repeat (first | go_skip | go_guarded | go_step | go_upon)
  go_ret2
  exact ⟨rfl, rfl⟩
set_option maxRecDepth 100000 in
set_option maxHeartbeats 1600000 in
theorem take_no (b : Nat) (s : List UInt8) (ls : List (List UInt8)) (k : Nat) (w : World) (h : RdA b s ls w) (hm : s.length ≤ maxLen) (hk : s.length < k) (hkm : k ≤ 4294967296) :
    Calls Tryd.prog 35 #[ptr b, .int .i64 k] w fun r w' => r = .returned (.tuple #[txt [], .bool false]) ∧ w' = w := by
  have c0 := h.c0
  have f0 := h.f0
  unfold maxLen at hm
  unfold txt at c0 ⊢
  obtain ⟨z, hz⟩ : ∃ z, s.length = z := ⟨_, rfl⟩
  obtain ⟨T, hT⟩ : ∃ T : ByteArray, ⟨s.toArray⟩ = T := ⟨_, rfl⟩
  have hd : T.data.toList = s := by rw [← hT]
  have hTz : T.size = z := by rw [Lib.size_eq, hd]; exact hz
  rw [hT] at c0
  have hkz : (z : Int) < k := by omega
  have hzl : (z : Int) ≤ 9223372036854775807 := by omega
  have hkl : (k : Int) ≤ 9223372036854775807 := by omega
  clear h hT hd hz hk hm
  go_enter Tryd.func35, Tryd.ntmps35
  repeat (first | go_skip | go_guarded | go_step | go_upon)
  go_ret2
  exact ⟨rfl, rfl⟩
end LN
end Go.Proofs.YtbklnijmalnnoaaDoor
