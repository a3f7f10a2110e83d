/- Layer 13: a profile out of the arguments. -/
import Derived.Test.YtechekdiadpmoaaDoorQPlArg
import Derived.Test.YtechekdiadpmoaaDoorQPlProg
set_option linter.all false
set_option maxRecDepth 100000
set_option maxHeartbeats 25600000
namespace Go.Proofs.YtechekdiadpmoaaDoor
open Go.RowKit Go.Lib
namespace PM
open OM TM PL
open Go.Deep Go.ChangeShapes Go.WideShapes Go.ChangeAt
set_option maxRecDepth 100000 in
theorem prof_arg {H : Type} {enc : TypeId × Value → H} {W : World} {r : Reach} {b0 : Nat} {spare : Nat → Bool} {held : Bool} {v : Value} {d : DataW H} {p : List MemPlace} (hv : Value.okWide Tryd.prog W r b0 39 v) (h : DataW.Trod enc Tryd.prog W 0 spare held 39 v d p) (hb : Rows.uptoBulk d ≤ 1048576) :
    ∃ (iv : Option Addr) (il ic : Nat) (jv : Option Addr) (jl jc : Nat) (mo : Option Addr) (mc : Nat) (M : List Pm) (pr fo : Int) (ba fa : Bool), v = PB.profV (.slice iv il ic) (.slice jv jl jc) mo M.length mc pr fo ba fa ∧ ArgM W mo mc M := by
  obtain ⟨cs, rfl, hsz⟩ := okWide_struct Tryd.underlying39 hv
  obtain ⟨c0, c1, c2, c3, c4, c5, c6, rfl⟩ : ∃ c0 c1 c2 c3 c4 c5 c6, cs = #[c0, c1, c2, c3, c4, c5, c6] := by
    have h7 : cs.size = 7 := hsz.trans (by kernel_rfl)
    obtain ⟨l⟩ := cs
    match l, h7 with
    | [c0, c1, c2, c3, c4, c5, c6], _ => exact ⟨_, _, _, _, _, _, _, rfl⟩
  obtain ⟨fuel, hf⟩ := h
  obtain ⟨xs, k, hk, hxy, _, hxl, hg⟩ := DataW.trod_struct Tryd.underlying39 hf
  match xs, hxl with
  | [y0, y1, y2, y3, y4, y5, y6], _ =>
    have k1 : Tryd.prog.cellsOf 36 = 1 := by kernel_rfl
    have k2 : Tryd.prog.cellsOf 37 = 1 := by kernel_rfl
    have k3 : Tryd.prog.cellsOf 3 = 1 := by kernel_rfl
    have k4 : Tryd.prog.cellsOf 4 = 1 := by kernel_rfl
    have g0 : DataW.trod enc Tryd.prog W 0 spare held k 36 [c0] = some y0 := by have := hg 0 _ rfl; simpa [k1, Value.cells] using this
    have g1 : DataW.trod enc Tryd.prog W 0 spare held k 36 [c1] = some y1 := by have := hg 1 _ rfl; simpa [k1, Value.cells] using this
    have g2 : DataW.trod enc Tryd.prog W 0 spare held k 37 [c2] = some y2 := by have := hg 2 _ rfl; simpa [k2, Value.cells] using this
    have g3 : DataW.trod enc Tryd.prog W 0 spare held k 3 [c3] = some y3 := by have := hg 3 _ rfl; simpa [k3, Value.cells] using this
    have g4 : DataW.trod enc Tryd.prog W 0 spare held k 3 [c4] = some y4 := by have := hg 4 _ rfl; simpa [k3, Value.cells] using this
    have g5 : DataW.trod enc Tryd.prog W 0 spare held k 4 [c5] = some y5 := by have := hg 5 _ rfl; simpa [k4, Value.cells] using this
    have g6 : DataW.trod enc Tryd.prog W 0 spare held k 4 [c6] = some y6 := by have := hg 6 _ rfl; simpa [k4, Value.cells] using this
    simp only [Prod.mk.injEq, List.map_cons, List.map_nil] at hxy
    obtain ⟨rfl, -⟩ := hxy
    obtain ⟨iv, il, ic, rfl⟩ := slice_shape Tryd.underlying36 g0
    obtain ⟨jv, jl, jc, rfl⟩ := slice_shape Tryd.underlying36 g1
    obtain ⟨mo, ml, mc, rfl⟩ := slice_shape Tryd.underlying37 g2
    obtain ⟨pr, e3, _, _⟩ := DataW.trod_int (by exact Tryd.underlying3) g3
    obtain ⟨fo, e4, _, _⟩ := DataW.trod_int (by exact Tryd.underlying3) g4
    obtain ⟨ba, e5, _⟩ := DataW.trod_bool (by exact Tryd.underlying4) g5
    obtain ⟨fa, e6, _⟩ := DataW.trod_bool (by exact Tryd.underlying4) g6
    simp only [List.cons.injEq, and_true] at e3 e4 e5 e6
    subst e3 e4 e5 e6
    simp only [Rows.uptoBulk, Rows.uptoBulkAll] at hb
    obtain ⟨M, rfl, hM⟩ := progs_arg Tryd.underlying37 Tryd.underlying42 (by kernel_rfl) rfl rfl (by kernel_rfl) (by kernel_rfl) rfl rfl g2 (by omega)
    exact ⟨iv, il, ic, jv, jl, jc, mo, mc, M, pr, fo, ba, fa, rfl, hM⟩
theorem pairs_len {H : Type} {enc : TypeId × Value → H} {W : World} {spare : Nat → Bool} {held : Bool} {t e : TypeId} {f0 f1 : Field} {fuel len cap : Nat} {a0 : Option Addr} {x : DataW H × List MemPlace} (ht : Tryd.prog.underlying t = some (.slice e)) (he : Tryd.prog.underlying e = some (.struct #[f0, f1]))
    (ce : Tryd.prog.cellsOf e = 2) (o0 : f0.offset = 0) (o1 : f1.offset = 1) (c0 : Tryd.prog.cellsOf f0.type = 1) (c1 : Tryd.prog.cellsOf f1.type = 1)
    (h : DataW.trod enc Tryd.prog W 0 spare held fuel t (Value.slice a0 len cap).cells.toList = some x) : len ≤ Rows.uptoBulk x.1 := by
  rcases open_slice_pairs ht he ce o0 o1 c0 c1 h with ⟨hcs, hx⟩ | ⟨ad, len', cap', m, n, V0, V1, D0, D1, P0, P1, hcs, _, hl, hm, hmm, hx, hcell⟩
  · simp [Value.cells] at hcs
    obtain ⟨rfl, rfl, rfl⟩ := hcs
    exact Nat.zero_le _
  · simp [Value.cells] at hcs
    obtain ⟨rfl, rfl, rfl⟩ := hcs
    rw [hx]
    simp only [Rows.uptoBulk]
    have := bulk_len ((List.range len).map fun i => DataW.agg [D0 i, D1 i])
    rw [List.length_map, List.length_range] at this
    omega
set_option maxRecDepth 100000 in
theorem item_arg {H : Type} {enc : TypeId × Value → H} {W : World} {r : Reach} {b0 : Nat} {spare : Nat → Bool} {held : Bool} {v : Value} {d : DataW H} {p : List MemPlace} (hv : Value.okWide Tryd.prog W r b0 34 v) (h : DataW.Trod enc Tryd.prog W 0 spare held 34 v d p) (hb : Rows.uptoBulk d ≤ 1048576) :
    ∃ x : Pi, v = .agg #[.string ⟨x.1.toArray⟩, .int .i64 x.2] ∧ x.1.length ≤ 1048576 := by
  obtain ⟨u0, u1, y0, y1, n2, rfl, rfl, rfl, g0, g1⟩ := Joins.open_agg2 Tryd.underlying34 (by kernel_rfl) (by kernel_rfl) hv h
  obtain ⟨s0, hm0, hy0, _⟩ := DataW.trod_string (by exact Tryd.underlying9) g0
  obtain ⟨k1, hm1, _, _⟩ := DataW.trod_int (by exact Tryd.underlying3) g1
  simp only [List.cons.injEq, and_true] at hm0 hm1
  subst hm0 hm1
  rw [hy0] at hb
  simp only [Rows.uptoBulk, Rows.uptoBulkAll] at hb
  exact ⟨(s0.data.toList, k1), by rw [show Value.string s0 = .string ⟨s0.data.toList.toArray⟩ from (txt_data s0).symm], by show s0.data.toList.length ≤ _; omega⟩
end PM
end Go.Proofs.YtechekdiadpmoaaDoor
