/- Layer 13: a profile out of the arguments. -/
import Derived.Test.YtechekdiadpmoaaDoorQPlArg
import Derived.Test.YtechekdiadpmoaaDoorQPlProg
set_option linter.all false
set_option maxRecDepth 100000
set_option maxHeartbeats 25600000
namespace Go.Proofs.YtechekdiadpmoaaDoor
open Go.RowKit Go.Lib
namespace PM
open OM TM PL
open Go.Deep Go.ChangeShapes Go.WideShapes Go.ChangeAt
set_option maxRecDepth 100000 in
theorem prof_arg {H : Type} {enc : TypeId × Value → H} {W : World} {r : Reach} {b0 : Nat} {spare : Nat → Bool} {held : Bool} {v : Value} {d : DataW H} {p : List MemPlace} (hv : Value.okWide Tryd.prog W r b0 39 v) (h : DataW.Trod enc Tryd.prog W 0 spare held 39 v d p) (hb : Rows.uptoBulk d ≤ 1048576) :
    ∃ (iv : Option Addr) (il ic : Nat) (jv : Option Addr) (jl jc : Nat) (mo : Option Addr) (mc : Nat) (M : List Pm) (pr fo : Int) (ba fa : Bool), v = PB.profV (.slice iv il ic) (.slice jv jl jc) mo M.length mc pr fo ba fa ∧ ArgM W mo mc M := by
  obtain ⟨cs, rfl, hsz⟩ := okWide_struct Tryd.underlying39 hv
  obtain ⟨c0, c1, c2, c3, c4, c5, c6, rfl⟩ : ∃ c0 c1 c2 c3 c4 c5 c6, cs = #[c0, c1, c2, c3, c4, c5, c6] := by
    have h7 : cs.size = 7 := hsz.trans (by kernel_rfl)
    obtain ⟨l⟩ := cs
    match l, h7 with
    | [c0, c1, c2, c3, c4, c5, c6], _ => exact ⟨_, _, _, _, _, _, _, rfl⟩
  obtain ⟨fuel, hf⟩ := h
  obtain ⟨xs, k, hk, hxy, _, hxl, hg⟩ := DataW.trod_struct Tryd.underlying39 hf
  match xs, hxl with
  | [y0, y1, y2, y3, y4, y5, y6], _ =>
    have k1 : Tryd.prog.cellsOf 36 = 1 := by kernel_rfl
    have k2 : Tryd.prog.cellsOf 37 = 1 := by kernel_rfl
    have k3 : Tryd.prog.cellsOf 3 = 1 := by kernel_rfl
    have k4 : Tryd.prog.cellsOf 4 = 1 := by kernel_rfl
    have g0 : DataW.trod enc Tryd.prog W 0 spare held k 36 [c0] = some y0 := by have := hg 0 _ rfl; simpa [k1, Value.cells] using this
    have g1 : DataW.trod enc Tryd.prog W 0 spare held k 36 [c1] = some y1 := by have := hg 1 _ rfl; simpa [k1, Value.cells] using this
    have g2 : DataW.trod enc Tryd.prog W 0 spare held k 37 [c2] = some y2 := by have := hg 2 _ rfl; simpa [k2, Value.cells] using this
    have g3 : DataW.trod enc Tryd.prog W 0 spare held k 3 [c3] = some y3 := by have := hg 3 _ rfl; simpa [k3, Value.cells] using this
    have g4 : DataW.trod enc Tryd.prog W 0 spare held k 3 [c4] = some y4 := by have := hg 4 _ rfl; simpa [k3, Value.cells] using this
    have g5 : DataW.trod enc Tryd.prog W 0 spare held k 4 [c5] = some y5 := by have := hg 5 _ rfl; simpa [k4, Value.cells] using this
    have g6 : DataW.trod enc Tryd.prog W 0 spare held k 4 [c6] = some y6 := by have := hg 6 _ rfl; simpa [k4, Value.cells] using this
    simp only [Prod.mk.injEq, List.map_cons, List.map_nil] at hxy
    obtain ⟨rfl, -⟩ := hxy
    obtain ⟨iv, il, ic, rfl⟩ := slice_shape Tryd.underlying36 g0
    obtain ⟨jv, jl, jc, rfl⟩ := slice_shape Tryd.underlying36 g1
    obtain ⟨mo, ml, mc, rfl⟩ := slice_shape Tryd.underlying37 g2
    obtain ⟨pr, e3, _, _⟩ := DataW.trod_int (by exact Tryd.underlying3) g3
    obtain ⟨fo, e4, _, _⟩ := DataW.trod_int (by exact Tryd.underlying3) g4
    obtain ⟨ba, e5, _⟩ := DataW.trod_bool (by exact Tryd.underlying4) g5
    obtain ⟨fa, e6, _⟩ := DataW.trod_bool (by exact Tryd.underlying4) g6
    simp only [List.cons.injEq, and_true] at e3 e4 e5 e6
    subst e3 e4 e5 e6
    simp only [Rows.uptoBulk, Rows.uptoBulkAll] at hb
    obtain ⟨M, rfl, hM⟩ := progs_arg Tryd.underlying37 Tryd.underlying42 (by kernel_rfl) rfl rfl (by kernel_rfl) (by kernel_rfl) rfl rfl g2 (by omega)
    exact ⟨iv, il, ic, jv, jl, jc, mo, mc, M, pr, fo, ba, fa, rfl, hM⟩
end PM
end Go.Proofs.YtechekdiadpmoaaDoor
