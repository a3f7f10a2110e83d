/- Layer 16: a frame out of the arguments. -/
import Derived.Test.YtdkfoakmjeealaaQMxArg
set_option linter.all false
set_option maxRecDepth 100000
set_option maxHeartbeats 25600000
namespace Go.Proofs.Ytdkfoakmjeealaa
open Go.ChangeShapes Go.WideShapes Go.ChangeAt Go.RowKit Go.Lib
namespace MX

set_option maxRecDepth 100000 in
theorem frame_arg {H : Type} {enc : TypeId × Value → H} {W : World} {r : Reach} {base b0 : Nat} {spare : Nat → Bool} {held : Bool} {v : Value} {d : DataW H} {p : List MemPlace} (hv : Value.okWide Try.prog W r b0 29 v) (h : DataW.Trod enc Try.prog W base spare held 29 v d p) :
    ∃ f : Fr, v = frV f ∧ -9223372036854775808 ≤ f.call ∧ f.call ≤ 9223372036854775807 ∧ -9223372036854775808 ≤ f.pos ∧ f.pos ≤ 9223372036854775807 ∧ f.text.length ≤ Rows.uptoBulk d := by
  obtain ⟨v0, v1, v2, v3, y0, y1, y2, y3, n, rfl, rfl, _, t0, t1, t2, t3⟩ := Go.Joins.open_agg4 (P := Try.prog) (t := 29) Try.underlying29 (by kernel_rfl) (by kernel_rfl) hv h
  obtain ⟨a, f0, g0, w0⟩ := DataW.trod_int (by exact Try.underlying3) t0
  obtain ⟨b, f1, g1, w1⟩ := DataW.trod_int (by exact Try.underlying3) t1
  obtain ⟨s, f2, g2, w2⟩ := DataW.trod_string (by exact Try.underlying9) t2
  obtain ⟨l, f3, g3⟩ := DataW.trod_bool (by exact Try.underlying4) t3
  simp only [List.cons.injEq, and_true] at f0 f1 f2 f3
  have ha := bounds_i64 w0
  have hb := bounds_i64 w1
  refine ⟨⟨a, b, s.data.toList, l⟩, ?_, ha.1, ha.2, hb.1, hb.2, ?_⟩
  · rw [f0, f1, f2, f3]
    unfold frV txt
    rw [← bytes_id]
  · rw [g2]
    simp only [Rows.uptoBulk, Rows.uptoBulkAll]
    omega
end MX
end Go.Proofs.Ytdkfoakmjeealaa
