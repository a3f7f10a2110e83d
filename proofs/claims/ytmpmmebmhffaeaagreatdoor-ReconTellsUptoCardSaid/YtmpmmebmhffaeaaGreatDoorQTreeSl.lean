/- Layer 6: pieces of lists of nodes. -/
import Derived.Test.YtmpmmebmhffaeaaGreatDoorQBase
import Derived.WalkKit
import Derived.WalkMore
import Derived.IntWalk
set_option linter.all false
set_option maxRecDepth 100000
set_option maxHeartbeats 25600000
namespace Go.Proofs.YtmpmmebmhffaeaaGreatDoor
open Go.RowKit Go.Lib
namespace TM
open OM TP

theorem add_zero_addr (a : Addr) : a.add 0 = a := by
  unfold Addr.add
  split <;> simp_all
/-- T is a type of lists of nodes. -/
structure NdSl (T : TypeId) : Prop where
  under : Tryz.prog.underlying T = some (.slice (Tryz.prog.elem T))
  size : ∀ W, (sizeOf (Tryz.prog.elem T)).run Tryz.prog W = .ok 4 W
theorem ndsl_node : NdSl 22 := ⟨by kernel_rfl, fun W => by rw [show Tryz.prog.elem 22 = 40 by kernel_rfl]; simp [go_sem]⟩
theorem ndsl_list : NdSl 69 := ⟨by kernel_rfl, fun W => by rw [show Tryz.prog.elem 69 = 40 by kernel_rfl]; simp [go_sem]⟩
theorem sl_to {T : TypeId} (hT : NdSl T) (ao : Option Addr) (n k cap : Nat) (z : Int) (hz : z = k) (h : k ≤ cap) (W : World) :
    (Instr.slice T (.slice ao n cap) none (some (.int .i64 z)) none).run Tryz.prog W = .ok (.slice ao k cap) W := by
  subst hz
  rw [run_slice_h W T ao n cap hT.under .i64 k (by omega) (by omega), hT.size]
  simp only [Result.andThen, sliced, Int.toNat_natCast, Nat.sub_zero, Nat.zero_mul]
  congr 2
  split
  · rfl
  · cases ao with
    | none => rfl
    | some a => simp [add_zero_addr]
theorem LayN.piece {W : World} {ao : Option Addr} {ts : List Nd} (h : LayN W ao ts) (i j : Nat) : LayN W (ao.map (·.add (i * 4))) ((ts.take j).drop i) := fun h0 => by
  rw [List.length_drop, List.length_take] at h0
  obtain ⟨g, o, rfl, hg, hc⟩ := h (by omega)
  refine ⟨g, o + i * 4, ?_, hg, fun k n hk => ?_⟩
  · simp [Addr.add]
  · rw [List.getElem?_drop, List.getElem?_take] at hk
    split at hk
    · have := hc _ n hk
      rw [show o + i * 4 + k * 4 = o + (i + k) * 4 by omega]
      exact this
    · cases hk
theorem LayN.take {W : World} {ao : Option Addr} {ts : List Nd} (h : LayN W ao ts) (j : Nat) : LayN W ao (ts.take j) := fun h0 => by
  rw [List.length_take] at h0
  obtain ⟨g, o, rfl, hg, hc⟩ := h (by omega)
  refine ⟨g, o, rfl, hg, fun k n hk => ?_⟩
  rw [List.getElem?_take] at hk
  split at hk
  · exact hc _ n hk
  · cases hk
theorem sl_lh {T : TypeId} (hT : NdSl T) (ao : Option Addr) (ts : List Nd) (n i j cap : Nat) (hij : i ≤ j) (hj : j ≤ cap) :
    ∃ ao' c', (∀ W, (Instr.slice T (.slice ao n cap) (some (.int .i64 (i : Nat))) (some (.int .i64 (j : Nat))) none).run Tryz.prog W = .ok (.slice ao' (j - i) c') W) ∧
      (∀ W, LayN W ao ts → LayN W ao' ((ts.take j).drop i)) ∧ j - i ≤ c' ∧ ((ao = none → cap = 0) → ao' = none → c' = 0) := by
  refine ⟨if cap = i then ao else ao.map (·.add (i * 4)), cap - i, fun W => ?_, fun W h => ?_, by omega, fun h0 h => ?_⟩
  · rw [run_slice_lh W T ao n cap hT.under .i64 .i64 i j (by omega) (by omega) (by omega), hT.size]
    simp only [Result.andThen, sliced, Int.toNat_natCast]
  · by_cases hc : cap = i
    · have : (ts.take j).drop i = [] := List.drop_eq_nil_of_le (by rw [List.length_take]; omega)
      rw [this]
      exact LayN.nil _ _
    · rw [if_neg hc]
      exact h.piece i j
  · by_cases hc : cap = i
    · omega
    · rw [if_neg hc] at h
      cases ao with
      | none => have := h0 rfl; omega
      | some a => cases h
theorem sl_from {T : TypeId} (hT : NdSl T) (ao : Option Addr) (ts : List Nd) (i cap : Nat) (hi : i ≤ ts.length) (hc : ts.length ≤ cap) :
    ∃ ao' c', (∀ W, (Instr.slice T (.slice ao ts.length cap) (some (.int .i64 (i : Nat))) none none).run Tryz.prog W = .ok (.slice ao' (ts.length - i) c') W) ∧
      (∀ W, LayN W ao ts → LayN W ao' (ts.drop i)) ∧ ts.length - i ≤ c' ∧ ((ao = none → cap = 0) → ao' = none → c' = 0) := by
  refine ⟨if cap = i then ao else ao.map (·.add (i * 4)), cap - i, fun W => ?_, fun W h => ?_, by omega, fun h0 h => ?_⟩
  · rw [run_slice_l W T ao ts.length cap hT.under .i64 i (by omega) (by omega), hT.size]
    simp only [Result.andThen, sliced, Int.toNat_natCast]
  · by_cases hc : cap = i
    · have : ts.drop i = [] := List.drop_eq_nil_of_le (by omega)
      rw [this]
      exact LayN.nil _ _
    · rw [if_neg hc]
      have := h.piece i ts.length
      rw [List.take_length] at this
      exact this
  · by_cases hc : cap = i
    · omega
    · rw [if_neg hc] at h
      cases ao with
      | none => have := h0 rfl; omega
      | some a => cases h
end TM
end Go.Proofs.YtmpmmebmhffaeaaGreatDoor
