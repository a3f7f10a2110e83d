/- Layer 15: pieces of texts. -/
import Derived.Test.YtbklnijmalnnoaaDoorQLnRef
import Derived.Deep.RegionWith
import Derived.Lib.QuietBelow
import Derived.BigQuiet
set_option linter.all false
set_option maxRecDepth 100000
set_option maxHeartbeats 25600000
namespace Go.Proofs.YtbklnijmalnnoaaDoor
open Go.RowKit Go.Lib Go.BigFrame
namespace RQ
open HP HS RP

theorem ext_bytes (l : List UInt8) (a b : Nat) : (⟨l.toArray⟩ : ByteArray).extract a b = ⟨((l.drop a).take (b - a)).toArray⟩ := by
  apply ByteArray.ext
  apply Array.ext'
  exact Lib.extract_data _ a b
/-- A callee's contract, met in a world of a region that draws its order. -/
theorem reg_of {f : FuncId} {args : Array Value} {v : Value} {w : World} (h : ∀ W, Below w.heap.size w W → Calls Tryd.prog f args W fun e w' => e = .returned v ∧ Below W.heap.size W w') (d : Nat) (os : Array Obj) :
    Calls Tryd.prog f args (Go.Sort.grow (redrawn w d) os) fun e w'' => e = .returned v ∧ ∃ p : Regrown, w'' = Go.Sort.grow (redrawn w p.d) p.os := Calls.regrown_of (h _ (below_regrown w d os))
theorem sl_mid (S : ByteArray) (a b : Nat) (za zb : Int) (ha : za = a) (hb : zb = b) (h1 : a ≤ b) (h2 : b ≤ S.size) (W : World) :
    (Instr.slice 9 (.string S) (some (.int .i64 za)) (some (.int .i64 zb)) none).run Tryd.prog W = .ok (.string ⟨((S.data.toList.drop a).take (b - a)).toArray⟩) W := by
  subst ha hb
  rw [run_slice_string W 9 S .i64 .i64 a b Tryd.underlying9 (by omega) (by omega) (by omega), bytes_is S, ext_bytes]
  rfl
theorem sl_from (S : ByteArray) (a : Nat) (za : Int) (ha : za = a) (h2 : a ≤ S.size) (W : World) :
    (Instr.slice 9 (.string S) (some (.int .i64 za)) none none).run Tryd.prog W = .ok (.string ⟨(S.data.toList.drop a).toArray⟩) W := by
  subst ha
  rw [run_slice_string_from_if W 9 S .i64 a Tryd.underlying9, if_pos (by omega), bytes_is S, ext_bytes, List.take_of_length_le (by rw [List.length_drop, Lib.size_eq]; simp)]
  rfl
theorem sl_to (S : ByteArray) (a : Nat) (za : Int) (ha : za = a) (h2 : a ≤ S.size) (W : World) :
    (Instr.slice 9 (.string S) none (some (.int .i64 za)) none).run Tryd.prog W = .ok (.string ⟨(S.data.toList.take a).toArray⟩) W := by
  subst ha
  rw [run_slice_string_to_if W 9 S .i64 a Tryd.underlying9, if_pos (by omega), bytes_is S, ext_bytes]
  rfl
end RQ
end Go.Proofs.YtbklnijmalnnoaaDoor
