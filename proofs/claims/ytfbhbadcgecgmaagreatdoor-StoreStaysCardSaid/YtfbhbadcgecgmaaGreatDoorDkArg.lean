/- Layer 7: a fate, a list of calls out of the arguments. -/
import Derived.Test.YtfbhbadcgecgmaaGreatDoorMg1
import Derived.Test.YtfbhbadcgecgmaaGreatDoorNameFrame
import Derived.Test.YtfbhbadcgecgmaaGreatDoorKit
import Derived.Deep.Slices
import Derived.Deep.SlicePairs
import Derived.Lib.SmallJoins
namespace Go.Proofs.YtfbhbadcgecgmaaGreatDoor
open Go.ChangeShapes Go.WideShapes Go.ChangeAt Go.RowKit Go.Lib
namespace DA
open OM TP TM

set_option maxRecDepth 100000 in
theorem fate_arg {H : Type} {enc : TypeId × Value → H} {W : World} {r : Reach} {base b0 : Nat} {spare : Nat → Bool} {held : Bool} {v : Value} {d : DataW H} {p : List MemPlace} (hv : Value.okWide Tryz.prog W r b0 78 v) (h : DataW.Trod enc Tryz.prog W base spare held 78 v d p) :
    ∃ a b c e : Int, v = .agg #[.int .i64 a, .int .i64 b, .int .i64 c, .int .i64 e] := by
  obtain ⟨v0, v1, v2, v3, y0, y1, y2, y3, n, rfl, _, _, t0, t1, t2, t3⟩ := Go.Joins.open_agg4 (P := Tryz.prog) (t := 78) Tryz.underlying78 (by kernel_rfl) (by kernel_rfl) hv h
  obtain ⟨a, f0, _, _⟩ := DataW.trod_int (by exact Tryz.underlying3) t0
  obtain ⟨b, f1, _, _⟩ := DataW.trod_int (by exact Tryz.underlying3) t1
  obtain ⟨c, f2, _, _⟩ := DataW.trod_int (by exact Tryz.underlying3) t2
  obtain ⟨e, f3, _, _⟩ := DataW.trod_int (by exact Tryz.underlying3) t3
  simp only [List.cons.injEq, and_true] at f0 f1 f2 f3
  exact ⟨a, b, c, e, by rw [f0, f1, f2, f3]⟩
end DA
end Go.Proofs.YtfbhbadcgecgmaaGreatDoor
