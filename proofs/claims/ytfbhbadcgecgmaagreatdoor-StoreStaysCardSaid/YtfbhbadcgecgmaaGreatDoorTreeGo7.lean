/- Layer 6: the contract of the program's Names. -/
import Derived.Test.YtfbhbadcgecgmaaGreatDoorTreeGo6
import Derived.Test.YtfbhbadcgecgmaaGreatDoorTreeRefC
namespace Go.Proofs.YtfbhbadcgecgmaaGreatDoor
open Go.RowKit Go.Lib Go.BigFrame
namespace TG
open OM TP TM TR

theorem within_calls {ao : Option Addr} {cap : Nat} {ts : List Nd} {p : List UInt8} {w : World} (he : NF.Env w) (h : LayN w ao ts) (hs : SmallG ts) (hp : p.length ≤ 1048576) (ht : treeB ts = true) :
    ∀ W, Below w.heap.size w W → Calls Tryz.prog 163 #[.slice ao ts.length cap, txt p] W (CutPost ts p W) := fun W hW =>
  within_any ao cap ts p W (he.below hW) (h.below hW) ((tree_iff ts).1 ht).sorted ((tree_iff ts).1 ht).path hs ((tree_iff ts).1 ht).len hp
theorem names_cut {ts : List Nd} {p : List UInt8} {i j : Nat} (ht : treeB ts = true) (h : Cut ts p i j) : namesL ts p = namesK ((ts.take j).drop i) p (j - i) := by
  rw [h.names ((tree_iff ts).1 ht)]
  unfold namesK
  rw [List.take_of_length_le (l := (ts.take j).drop i)]
  have := h.le
  rw [List.length_drop, List.length_take]
  omega
theorem names_none {ts : List Nd} {p : List UInt8} (h : treeB ts = false) : namesL ts p = [] := by
  unfold namesL
  rw [if_neg (by rw [h]; simp)]
end TG
end Go.Proofs.YtfbhbadcgecgmaaGreatDoor
