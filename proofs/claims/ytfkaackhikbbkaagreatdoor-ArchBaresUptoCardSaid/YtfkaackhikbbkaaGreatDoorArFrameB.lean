/- What the rows of layer 9 share that sum data: their world holds the fingerprint's tables too. -/
import Derived.Test.YtfkaackhikbbkaaGreatDoorArFrame
import Derived.Test.YtfkaackhikbbkaaGreatDoorArBare
namespace Go.Proofs.YtfkaackhikbbkaaGreatDoor
open Go.ChangeShapes Go.WideShapes Go.ChangeAt Go.RowKit Go.Lib
namespace FB
open FA (tab_cell checks_is)

theorem own : ownKnob Tryz.prog.godebug = none := by kernel_rfl
def laid : List (String × DataW Unit) := [("hawser/hash.checks", Rows.laid_hawser_hash_checks), ("hawser/hash.begun", Rows.laid_hawser_hash_begun), ("hawser/hash.rounds", Rows.laid_hawser_hash_rounds), ("unicode/utf8.acceptRanges", Rows.laid_unicode_utf8_acceptRanges), ("unicode/utf8.first", Rows.laid_unicode_utf8_first)]
theorem rounds_is : (Rows.laid_hawser_hash_rounds : DataW Unit) = tabData .u32 (HS.roundK.map fun n => ((n : Nat) : Int)) := by kernel_rfl
theorem begun_is : (Rows.laid_hawser_hash_begun : DataW Unit) = tabData .u32 (HQ.startL.map fun n => ((n : Nat) : Int)) := by kernel_rfl
theorem getD_map (l : List Nat) (i : Nat) (h : i < l.length) : (l.map fun n => ((n : Nat) : Int)).getD i 0 = ((l.getD i 0 : Nat) : Int) := by
  rw [List.getD_eq_getElem?_getD, List.getD_eq_getElem?_getD, List.getElem?_map, List.getElem?_eq_getElem h]
  rfl
theorem env_of {W : World} (hL : laidMetH Tryz.prog laid W) (hsh : W.ShapedOpen Tryz.prog) : AR.Env W ∧ HQ.Env W := by
  rw [MakeChecks.laidMetH_plain _ _ _ (by kernel_rfl)] at hL
  have r1 := Lib.laidMet.reads hL (.head _)
  have r2 := Lib.laidMet.reads hL (.tail _ (.head _))
  have r3 := Lib.laidMet.reads hL (.tail _ (.tail _ (.head _)))
  have hc : ∀ i : Nat, i < 16 → W.cell? ⟨2, i, none⟩ = some (.int .u32 (HP.csts 4 i : Nat)) := fun i hi => by
    have h := tab_cell (g := 2) (t := 157) (e := 79) (n := 16) r1 checks_is (by kernel_rfl) (by kernel_rfl) Tryz.underlying157 Tryz.underlying79 (by kernel_rfl) (by kernel_rfl) i (by simpa using hi)
    rw [h, List.getD_eq_getElem?_getD, List.getElem?_map, List.getElem?_range hi]
    rfl
  refine ⟨⟨⟨utf8Tabs_of_readsT (U8Types.of196 Tryz.laysValid) ⟨by kernel_rfl, by kernel_rfl, by kernel_rfl, by kernel_rfl, by kernel_rfl, by kernel_rfl, by kernel_rfl⟩ ?_ ?_, FR.max_cell W hsh⟩, ⟨hc⟩⟩, ⟨hc, fun i hi => ?_, fun i hi => ?_⟩⟩
  · have := Lib.laidMet.reads hL (.tail _ (.tail _ (.tail _ (.tail _ (.head _)))))
    rw [FR.first_eq] at this
    exact this
  · have := Lib.laidMet.reads hL (.tail _ (.tail _ (.tail _ (.head _))))
    rw [FR.accept_eq] at this
    exact this
  · have h := tab_cell (g := 1) (t := 141) (e := 79) (n := 64) r3 rounds_is (by kernel_rfl) (by kernel_rfl) Tryz.underlying141 Tryz.underlying79 (by kernel_rfl) (by kernel_rfl) i (by rw [List.length_map]; exact hi)
    rw [h, getD_map _ _ hi]
  · have h := tab_cell (g := 0) (t := 81) (e := 79) (n := 8) r2 begun_is (by kernel_rfl) (by kernel_rfl) Tryz.underlying81 Tryz.underlying79 (by kernel_rfl) (by kernel_rfl) i (by rw [List.length_map]; exact hi)
    rw [h, getD_map _ _ hi]
/-- The witness's world: the tables lie in it as Go's text lays them. -/
noncomputable def w0 (os : Os) (args : Array Value) : World := (World.laidAll Tryz.prog os laid).forCall (fun _ _ => 0) ⟨#[], args, []⟩
theorem shaped (os : Os) (args : Array Value) : (w0 os args).Shaped Tryz.prog := World.shaped_of_ZipB (by kernel_rfl) (by kernel_rfl)
theorem met (os : Os) (args : Array Value) : laidMetH Tryz.prog laid (w0 os args).memory := by
  rw [MakeChecks.laidMetH_plain _ _ _ (by kernel_rfl)]
  exact laidMet_laidAll _ (by kernel_rfl) (by kernel_rfl)
theorem witness {H : Type} {enc : TypeId × Value → H} {os : Os} {f : FuncId} {fn : Func} {s : OpenSpec} {conds : List PathCond} {apart : Bool} (args : Array Value)
    (hok : Input.okWideB Tryz.checked.prog (w0 os args) f ⟨#[], args, []⟩ = true)
    (hrow : s.preRow enc Tryz.checked.prog fn conds apart laid (w0 os args).memory args) :
    ∃ (w : World) (tape : Tape) (i : Input), w.os = os ∧ (w.forCall tape i).Shaped Tryz.checked.prog ∧ i.vars = [] ∧ Input.okWide Tryz.checked.prog (w.forCall tape i) .any w.heap.size f i ∧
      s.preRow enc Tryz.checked.prog fn conds apart laid (w.forCall tape i).memory i.args ∧ ({} : Assume).holds Tryz.checked.prog (lone (Frame.enter Tryz.checked.prog f i.args .normal) [] (w.forCall tape i)) :=
  ⟨World.laidAll Tryz.prog os laid, fun _ _ => 0, ⟨#[], args, []⟩, World.laidAll_os _ _ _, shaped os args, (Input.okWide_of_okWideB (base := 0) hok).1, (Input.okWide_of_okWideB hok).2, hrow, by
    simp only [Assume.holds]
    exact ⟨by simp, by simp, fun _ => Modest.zero, by simp, by simp⟩⟩
end FB
end Go.Proofs.YtfkaackhikbbkaaGreatDoor
