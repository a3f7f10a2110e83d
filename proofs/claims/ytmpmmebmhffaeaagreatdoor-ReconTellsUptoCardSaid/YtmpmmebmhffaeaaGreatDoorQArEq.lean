/- Layer 6: the contracts of the document's Same, Right. -/
import Derived.Test.YtmpmmebmhffaeaaGreatDoorQBase
import Derived.WalkKit
import Derived.WalkMore
import Derived.IntWalk
import Derived.Below
import Derived.Lib.Hide
import Derived.BigRegion
import Derived.BigQuiet
import Derived.Deep.RegionWith
import Derived.Lib.QuietBelow
import Derived.Laws.StructEq
set_option linter.all false
set_option maxRecDepth 100000
set_option maxHeartbeats 25600000
namespace Go.Proofs.YtmpmmebmhffaeaaGreatDoor
open Go.RowKit Go.Lib Go.BigFrame
namespace TR
open OM TP TM

theorem str_eq (a b : List UInt8) : ((⟨a.toArray⟩ : ByteArray).toList == (⟨b.toArray⟩ : ByteArray).toList) = decide (a = b) := by
  rw [Lib.toList_data, Lib.toList_data, Bool.eq_iff_iff]
  simp
theorem eq_nd (a b : Nd) (W : World) : (Op.equalIn 10000 40 (ndVal a) (ndVal b)).run Tryz.prog W = .ok (decide (a = b)) W := by
  unfold ndVal
  rw [run_equalIn_struct W 9999 40 _ _ (by kernel_rfl) (by kernel_rfl)]
  have names : (Tryz.prog.fieldsOf 40).toList.map (fun f => (f.name, f.type, f.offset)) = [("Path", 9, 0), ("Kind", 3, 1), ("Data", 9, 2), ("Mode", 3, 3)] := by kernel_rfl
  obtain ⟨f0, f1, f2, f3, e⟩ : ∃ f0 f1 f2 f3, (Tryz.prog.fieldsOf 40).toList = [f0, f1, f2, f3] := by
    have hl := congrArg List.length names
    rw [List.length_map] at hl
    match h : (Tryz.prog.fieldsOf 40).toList, hl with
    | [f0, f1, f2, f3], _ => exact ⟨f0, f1, f2, f3, rfl⟩
  rw [e] at names
  simp only [List.map_cons, List.map_nil, List.cons.injEq, Prod.mk.injEq, and_true] at names
  obtain ⟨⟨n0, t0, o0⟩, ⟨n1, t1, o1⟩, ⟨n2, t2, o2⟩, n3, t3, o3⟩ := names
  rw [e]
  unfold txt
  have s1 := str_eq a.path b.path
  have s2 := str_eq a.data b.data
  obtain ⟨p, k, d, m⟩ := a
  obtain ⟨p', k', d', m'⟩ := b
  simp only at s1 s2 ⊢
  simp [Op.eqFields, go_sem, n0, n1, n2, n3, t0, t1, t2, t3, o0, o1, o2, o3, Tryz.underlying9, Tryz.underlying3]
  by_cases h1 : p = p' <;> by_cases h2 : k = k' <;> by_cases h3 : d = d' <;> by_cases h4 : m = m' <;> simp [h1, h2, h3, h4]
end TR
end Go.Proofs.YtmpmmebmhffaeaaGreatDoor
