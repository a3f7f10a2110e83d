/- Layer 6: the contracts of the program's within (sort.Search over a closure), goesOn, rightNode, hasNoPath. -/
import Derived.Test.YtmpmmebmhffaeaaGreatDoorQTreeGo1
import Derived.Test.YtmpmmebmhffaeaaGreatDoorQArLow
import Derived.Lib.IndexLaws
set_option linter.all false
set_option maxRecDepth 100000
set_option maxHeartbeats 25600000
namespace Go.Proofs.YtmpmmebmhffaeaaGreatDoor
open Go.RowKit Go.Lib Go.BigFrame
namespace TG
open OM TP TM

/-- A callee's contract, met in a world of a region that draws its order. -/
theorem reg_g {f : FuncId} {args : Array Value} {v : Value} {w : World} (h : ∀ W, Below w.heap.size w W → Calls Tryz.prog f args W fun e w' => e = .returned v ∧ Below W.heap.size W w') (d : Nat) (os : Array Obj) :
    Calls Tryz.prog f args (Go.Sort.grow (redrawn w d) os) fun e w'' => e = .returned v ∧ ∃ p : Regrown, w'' = Go.Sort.grow (redrawn w p.d) p.os := Calls.regrown_of (h _ (below_regrown w d os))
theorem path_txt (S : ByteArray) (l : List UInt8) (w : World) (he : NF.Env w) (hS : S.data.toList = l) (h : l.length ≤ 1048576) :
    Calls Tryz.prog 35 #[.string S] w fun e w' => e = .returned (.bool (NP.pathL l)) ∧ Below w.heap.size w w' := by
  subst hS
  exact NF.path_any S w he (by rw [Lib.size_eq]; unfold maxLen; omega)
theorem parent_txt (S : ByteArray) (l : List UInt8) (w : World) (he : NF.Env w) (hS : S.data.toList = l) (h : l.length ≤ 1048576) :
    Calls Tryz.prog 58 #[.string S] w fun e w' => e = .returned (txt (NP.parentL l)) ∧ Below w.heap.size w w' := by
  subst hS
  refine (NC.parent_any S w he (by rw [Lib.size_eq]; unfold maxLen; omega)).mono ?_
  rintro e w' ⟨t, rfl, ht, hb⟩
  exact ⟨by rw [← ht, txt_data], hb⟩
theorem parent_len (p : List UInt8) : (NP.parentL p).length ≤ p.length := by
  unfold NP.parentL
  split
  · by_cases h : p = []
    · rw [h]; exact Nat.le_refl _
    · exact Nat.le_of_lt (up_short h)
  · exact Nat.zero_le _
theorem cell_box (w : World) (v : Value) (t : TypeId) : (w.alloc (.cells #[v] t)).cell? ⟨w.heap.size, 0, none⟩ = some v := by
  rw [World.cell?_alloc_at _ _ _ _ rfl]; rfl
end TG
end Go.Proofs.YtmpmmebmhffaeaaGreatDoor
