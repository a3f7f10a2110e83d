/- Layer 6: the contract of the program's At. -/
import Derived.Test.YtfbhbadcgecgmaaGreatDoorTreeGo7
namespace Go.Proofs.YtfbhbadcgecgmaaGreatDoor
open Go.RowKit Go.Lib Go.BigFrame
namespace TG
open OM TP TM TR

def atP (p : List UInt8) : List Nd := if p = [] then [root] else []
def atG (B : List Nd) (p : List UInt8) (k : Nat) : List Nd := atP p ++ (B.take k).map (trimN p)
theorem atG_zero (B : List Nd) (p : List UInt8) : atG B p 0 = atP p := by unfold atG; simp
theorem atG_succ {B : List Nd} {p : List UInt8} {k : Nat} {x : Nd} (hx : B[k]? = some x) : atG B p (k + 1) = atG B p k ++ [trimN p x] := by
  unfold atG
  rw [List.take_add_one, hx, Option.toList_some, List.map_append, List.append_assoc]
  rfl
theorem atG_len (B : List Nd) (p : List UInt8) (k : Nat) : (atG B p k).length ≤ k + 1 := by
  unfold atG atP
  rw [List.length_append, List.length_map, List.length_take]
  split <;> simp <;> omega
theorem at_cut {ts : List Nd} {p : List UInt8} {i j : Nat} (ht : treeB ts = true) (h : Cut ts p i j) : atL ts p = atG ((ts.take j).drop i) p (j - i) := by
  rw [h.at ((tree_iff ts).1 ht)]
  unfold atG
  rw [List.take_of_length_le (l := (ts.take j).drop i)]
  · rfl
  · have := h.le
    rw [List.length_drop, List.length_take]
    omega
theorem at_not {ts : List Nd} {p : List UInt8} (h : treeB ts = false) : atL ts p = [] := by
  unfold atL
  rw [if_neg (by rw [h]; simp)]
theorem trim_txt (X S T : ByteArray) (l p : List UInt8) (hX : X.data.toList = l) (hS : S.data.toList = p) (hT : T.data.toList = Lib.trimPrefix l p) (W : World) :
    Calls Tryz.prog 137 #[.string X, .string S] W fun e w' => e = .returned (.string T) ∧ w' = W := by
  have := Tryz.strings_TrimPrefix X S W
  rw [hX, hS, ← hT, show (⟨T.data.toList.toArray⟩ : ByteArray) = T by apply ByteArray.ext; simp] at this
  exact this
end TG
end Go.Proofs.YtfbhbadcgecgmaaGreatDoor
