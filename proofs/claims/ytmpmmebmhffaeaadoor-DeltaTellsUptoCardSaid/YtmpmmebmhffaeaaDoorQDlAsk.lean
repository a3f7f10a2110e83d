/- Layer 14: a size and a list of blocks out of the argument. -/
import Derived.Test.YtmpmmebmhffaeaaDoorQDlArg
import Derived.ChangeSame
import Derived.WideShapes
set_option linter.all false
set_option maxRecDepth 100000
set_option maxHeartbeats 25600000
namespace Go.Proofs.YtmpmmebmhffaeaaDoor
open Go.RowKit Go.Lib Go.BigFrame Go.Maps
namespace DM
open OM DL HP HS
open Go.Deep Go.ChangeShapes Go.WideShapes Go.ChangeAt
section
variable {H : Type} {enc : TypeId × Value → H} {W : World} {spare : Nat → Bool} {held : Bool}
theorem shape_slice {t e : TypeId} {fuel : Nat} {c : Value} {x : DataW H × List MemPlace} (ht : Tryd.prog.underlying t = some (.slice e)) (h : DataW.trod enc Tryd.prog W 0 spare held fuel t [c] = some x) : ∃ a len cap, c = .slice a len cap := by
  rcases open_slice ht h with h0 | ⟨a, len, cap, m, n, D, Pl, h1, _⟩
  · have := h0.1
    simp only [List.cons.injEq, and_true] at this
    exact ⟨_, _, _, this⟩
  · simp only [List.cons.injEq, and_true] at h1
    exact ⟨_, _, _, h1⟩
set_option maxRecDepth 100000 in
theorem asked_arg {r : Reach} {b0 : Nat} {v : Value} {d : DataW H} {p : List MemPlace} (hv : Value.okWide Tryd.prog W r b0 24 v) (h : DataW.Trod enc Tryd.prog W 0 spare held 24 v d p) (hb : Rows.uptoBulk d ≤ 1048576) :
    ∃ (z : Int) (a0 : Option Addr) (cap : Nat) (L : List Bk), v = .agg #[.int .i64 z, .slice a0 L.length cap] ∧ LayB W a0 L ∧ L.length ≤ 1048576 ∧ ∀ y ∈ L, BkOk y := by
  obtain ⟨cs, rfl, hsz⟩ := okWide_struct Tryd.underlying24 hv
  obtain ⟨c0, c1, rfl⟩ : ∃ c0 c1, cs = #[c0, c1] := by
    have h7 : cs.size = 2 := hsz.trans (by kernel_rfl)
    obtain ⟨l⟩ := cs
    match l, h7 with
    | [c0, c1], _ => exact ⟨_, _, rfl⟩
  obtain ⟨fuel, hf⟩ := h
  obtain ⟨xs, k, hk, hxy, _, hxl, hg⟩ := DataW.trod_struct Tryd.underlying24 hf
  match xs, hxl with
  | [y0, y1], _ =>
    have k1 : Tryd.prog.cellsOf 22 = 1 := by kernel_rfl
    have k3 : Tryd.prog.cellsOf 3 = 1 := by kernel_rfl
    have g0 : DataW.trod enc Tryd.prog W 0 spare held k 3 [c0] = some y0 := by have := hg 0 _ rfl; simpa [k3, Value.cells] using this
    have g1 : DataW.trod enc Tryd.prog W 0 spare held k 22 [c1] = some y1 := by have := hg 1 _ rfl; simpa [k1, Value.cells] using this
    simp only [Prod.mk.injEq, List.map_cons, List.map_nil] at hxy
    obtain ⟨rfl, -⟩ := hxy
    obtain ⟨iv, il, ic, rfl⟩ := shape_slice Tryd.underlying22 g1
    obtain ⟨pr, e3, _, _⟩ := DataW.trod_int (by exact Tryd.underlying3) g0
    simp only [List.cons.injEq, and_true] at e3
    subst e3
    simp only [Rows.uptoBulk, Rows.uptoBulkAll] at hb
    have g1' : DataW.trod enc Tryd.prog W 0 spare held k 22 (Value.slice iv il ic).cells.toList = some y1 := by simpa [Value.cells] using g1
    obtain ⟨M, rfl, hM, h1, h2⟩ := blks_arg Tryd.underlying33 rfl rfl rfl rfl rfl rfl g1' (by omega)
    exact ⟨pr, iv, ic, M, rfl, hM, h1, h2⟩
end
end DM
end Go.Proofs.YtmpmmebmhffaeaaDoor
