/- What every row of layer 14 shares: what its world holds of the program's two tables, the witness's world, the step from walks to rows. -/
import Derived.Test.YtmpmmebmhffaeaaDoorQHashFn
import Derived.Test.YtmpmmebmhffaeaaDoorQKit
import Derived.Test.YtmpmmebmhffaeaaDoorRows
import Derived.ProofKit
import Derived.OpenShut
import Derived.PinnedBridge
import Derived.Lay
import Derived.MakeChecks
import Derived.Lib.LaidU8T
import Derived.Shelf.Vars
import Derived.Deep.DeepHandedRow
set_option linter.all false
set_option maxRecDepth 100000
set_option maxHeartbeats 25600000
namespace Go.Proofs.YtmpmmebmhffaeaaDoor
open Go.ChangeShapes Go.WideShapes Go.ChangeAt Go.RowKit Go.Lib
namespace FR

theorem own : ownKnob Tryd.prog.godebug = none := by kernel_rfl
def laid : List (String × DataW Unit) := [("hawser/hash.begun", Rows.laid_hawser_hash_begun), ("hawser/hash.rounds", Rows.laid_hawser_hash_rounds)]
theorem tab_cell {W : World} {name : String} {d : DataW Unit} {zs : List Int} {g t e n : Nat} (hr : VarReads Tryd.prog W name d) (hd : d = tabData .u32 zs) (hg : Tryd.prog.globalNamed name = some g)
    (hty : (Tryd.prog.globals[g]?).map (·.type) = some t) (ht : Tryd.prog.underlying t = some (.array n e)) (he : Tryd.prog.underlying e = some (.int .u32)) (hce : Tryd.prog.cellsOf e = 1) (hct : Tryd.prog.cellsOf t = n)
    (i : Nat) (hi : i < zs.length) : W.cell? ⟨g, i, none⟩ = some (.int .u32 (zs.getD i 0)) := by
  obtain ⟨g', t', cs, fuel, p, hg', hty', hvar, htr⟩ := hr
  obtain rfl := Option.some.inj (hg.symm.trans hg')
  obtain rfl := Option.some.inj (hty.symm.trans hty')
  subst hd
  have hcs := cells_of_tab ht he hce hct htr
  have := World.var?_cell hg hvar i
  rw [this, ← Array.getElem?_toList, hcs]
  simp [List.getD, hi]
theorem rounds_is : (Rows.laid_hawser_hash_rounds : DataW Unit) = tabData .u32 (HS.roundK.map fun n => ((n : Nat) : Int)) := by kernel_rfl
theorem begun_is : (Rows.laid_hawser_hash_begun : DataW Unit) = tabData .u32 (HQ.startL.map fun n => ((n : Nat) : Int)) := by kernel_rfl
theorem getD_map (l : List Nat) (i : Nat) (h : i < l.length) : (l.map fun n => ((n : Nat) : Int)).getD i 0 = ((l.getD i 0 : Nat) : Int) := by
  rw [List.getD_eq_getElem?_getD, List.getD_eq_getElem?_getD, List.getElem?_map, List.getElem?_eq_getElem h]
  rfl
theorem env_of {W : World} (hL : laidMetH Tryd.prog laid W) : HQ.Env W := by
  rw [MakeChecks.laidMetH_plain _ _ _ (by kernel_rfl)] at hL
  have r1 := Lib.laidMet.reads hL (.head _)
  have r2 := Lib.laidMet.reads hL (.tail _ (.head _))
  refine ⟨fun i hi => ?_, fun i hi => ?_⟩
  · have h := tab_cell (g := 1) (t := 115) (e := 31) (n := 64) r2 rounds_is (by kernel_rfl) (by kernel_rfl) Tryd.underlying115 Tryd.underlying31 (by kernel_rfl) (by kernel_rfl) i (by rw [List.length_map]; exact hi)
    rw [h, getD_map _ _ hi]
  · have h := tab_cell (g := 0) (t := 99) (e := 31) (n := 8) r1 begun_is (by kernel_rfl) (by kernel_rfl) Tryd.underlying99 Tryd.underlying31 (by kernel_rfl) (by kernel_rfl) i (by rw [List.length_map]; exact hi)
    rw [h, getD_map _ _ hi]
/-- The witness's world: the tables lie in it as the program's text lays them. -/
noncomputable def w0 (os : Os) (args : Array Value) : World := (World.laidAll Tryd.prog os laid).forCall (fun _ _ => 0) ⟨#[], args, []⟩
theorem shaped (os : Os) (args : Array Value) : (w0 os args).Shaped Tryd.prog := World.shaped_of_ZipB (by kernel_rfl) (by kernel_rfl)
theorem met (os : Os) (args : Array Value) : laidMetH Tryd.prog laid (w0 os args).memory := by
  rw [MakeChecks.laidMetH_plain _ _ _ (by kernel_rfl)]
  exact laidMet_laidAll _ (by kernel_rfl) (by kernel_rfl)
theorem witness {H : Type} {enc : TypeId × Value → H} {os : Os} {f : FuncId} {fn : Func} {s : OpenSpec} {conds : List PathCond} {apart : Bool} (args : Array Value)
    (hok : Input.okWideB Tryd.checked.prog (w0 os args) f ⟨#[], args, []⟩ = true)
    (hrow : s.preRow enc Tryd.checked.prog fn conds apart laid (w0 os args).memory args) :
    ∃ (w : World) (tape : Tape) (i : Input), w.os = os ∧ (w.forCall tape i).Shaped Tryd.checked.prog ∧ i.vars = [] ∧ Input.okWide Tryd.checked.prog (w.forCall tape i) .any w.heap.size f i ∧
      s.preRow enc Tryd.checked.prog fn conds apart laid (w.forCall tape i).memory i.args ∧ ({} : Assume).holds Tryd.checked.prog (lone (Frame.enter Tryd.checked.prog f i.args .normal) [] (w.forCall tape i)) :=
  ⟨World.laidAll Tryd.prog os laid, fun _ _ => 0, ⟨#[], args, []⟩, World.laidAll_os _ _ _, shaped os args, (Input.okWide_of_okWideB (base := 0) hok).1, (Input.okWide_of_okWideB hok).2, hrow, by
    simp only [Assume.holds]
    exact ⟨by simp, by simp, fun _ => Modest.zero, by simp, by simp⟩⟩
end FR
end Go.Proofs.YtmpmmebmhffaeaaDoor
