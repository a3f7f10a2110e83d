/- What every row of layer 15 shares: what its world holds of the program's table, the witness's world, a list of texts out of the arguments. -/
import Derived.Test.YtbklnijmalnnoaaDoorQLnMore
import Derived.Test.YtbklnijmalnnoaaDoorQLnPre
import Derived.Test.YtbklnijmalnnoaaDoorQKit
import Derived.Lib.SmallJoins
import Derived.Test.YtbklnijmalnnoaaDoorRows
import Derived.ProofKit
import Derived.OpenShut
import Derived.PinnedBridge
import Derived.Lay
import Derived.MakeChecks
import Derived.Lib.LaidU8T
import Derived.Shelf.Vars
import Derived.SliceStrings
import Derived.Deep.DeepHandedRow
set_option linter.all false
set_option maxRecDepth 100000
set_option maxHeartbeats 25600000
namespace Go.Proofs.YtbklnijmalnnoaaDoor
open Go.ChangeShapes Go.WideShapes Go.ChangeAt Go.RowKit Go.Lib
namespace FR

theorem own : ownKnob Tryd.prog.godebug = none := by kernel_rfl
def laid : List (String × DataW Unit) := [("hawser/hash.checks", Rows.laid_hawser_hash_checks)]
theorem tab_cell {W : World} {name : String} {d : DataW Unit} {zs : List Int} {g t e n : Nat} (hr : VarReads Tryd.prog W name d) (hd : d = tabData .u32 zs) (hg : Tryd.prog.globalNamed name = some g)
    (hty : (Tryd.prog.globals[g]?).map (·.type) = some t) (ht : Tryd.prog.underlying t = some (.array n e)) (he : Tryd.prog.underlying e = some (.int .u32)) (hce : Tryd.prog.cellsOf e = 1) (hct : Tryd.prog.cellsOf t = n)
    (i : Nat) (hi : i < zs.length) : W.cell? ⟨g, i, none⟩ = some (.int .u32 (zs.getD i 0)) := by
  obtain ⟨g', t', cs, fuel, p, hg', hty', hvar, htr⟩ := hr
  obtain rfl := Option.some.inj (hg.symm.trans hg')
  obtain rfl := Option.some.inj (hty.symm.trans hty')
  subst hd
  have hcs := cells_of_tab ht he hce hct htr
  have := World.var?_cell hg hvar i
  rw [this, ← Array.getElem?_toList, hcs]
  simp [List.getD, hi]
theorem checks_is : (Rows.laid_hawser_hash_checks : DataW Unit) = tabData .u32 ((List.range 16).map fun i => ((HP.csts 4 i : Nat) : Int)) := by kernel_rfl
theorem env_of {W : World} (hL : laidMetH Tryd.prog laid W) : HQ.Env W := by
  rw [MakeChecks.laidMetH_plain _ _ _ (by kernel_rfl)] at hL
  have r1 := Lib.laidMet.reads hL (.head _)
  refine ⟨fun i hi => ?_⟩
  have h := tab_cell (g := 0) (t := 74) (e := 53) (n := 16) r1 checks_is (by kernel_rfl) (by kernel_rfl) Tryd.underlying74 Tryd.underlying53 (by kernel_rfl) (by kernel_rfl) i (by simpa using hi)
  rw [h, List.getD_eq_getElem?_getD, List.getElem?_map, List.getElem?_range hi]
  rfl
noncomputable def w0 (os : Os) (args : Array Value) : World := (World.laidAll Tryd.prog os laid).forCall (fun _ _ => 0) ⟨#[], args, []⟩
/-- The witness's world: the tables lie in it as the program's text lays them. -/
theorem shaped (os : Os) (args : Array Value) : (w0 os args).Shaped Tryd.prog := World.shaped_of_ZipB (by kernel_rfl) (by kernel_rfl)
theorem met (os : Os) (args : Array Value) : laidMetH Tryd.prog laid (w0 os args).memory := by
  rw [MakeChecks.laidMetH_plain _ _ _ (by kernel_rfl)]
  exact laidMet_laidAll _ (by kernel_rfl) (by kernel_rfl)
theorem witness {H : Type} {enc : TypeId × Value → H} {os : Os} {f : FuncId} {fn : Func} {s : OpenSpec} {conds : List PathCond} {apart : Bool} (args : Array Value)
    (hok : Input.okWideB Tryd.checked.prog (w0 os args) f ⟨#[], args, []⟩ = true)
    (hrow : s.preRow enc Tryd.checked.prog fn conds apart laid (w0 os args).memory args) :
    ∃ (w : World) (tape : Tape) (i : Input), w.os = os ∧ (w.forCall tape i).Shaped Tryd.checked.prog ∧ i.vars = [] ∧ Input.okWide Tryd.checked.prog (w.forCall tape i) .any w.heap.size f i ∧
      s.preRow enc Tryd.checked.prog fn conds apart laid (w.forCall tape i).memory i.args ∧ ({} : Assume).holds Tryd.checked.prog (lone (Frame.enter Tryd.checked.prog f i.args .normal) [] (w.forCall tape i)) :=
  ⟨World.laidAll Tryd.prog os laid, fun _ _ => 0, ⟨#[], args, []⟩, World.laidAll_os _ _ _, shaped os args, (Input.okWide_of_okWideB (base := 0) hok).1, (Input.okWide_of_okWideB hok).2, hrow, by
    simp only [Assume.holds]
    exact ⟨by simp, by simp, fun _ => Modest.zero, by simp, by simp⟩⟩
theorem add_plain (b off k : Nat) : (⟨b, off, none⟩ : Addr).add k = ⟨b, off + k, none⟩ := by unfold Addr.add; split <;> simp_all
theorem joined_bulk {H : Type} : ∀ (ts : List ByteArray), (RP.joined (ts.map (·.data.toList))).length ≤ 8 * Rows.uptoBulkAll (strs ts : List (DataW H))
  | [] => by simp [RP.joined]
  | t :: ts => by
    have ih := joined_bulk (H := H) ts
    have e : RP.joined ((t :: ts).map (·.data.toList)) = RP.packL t.data.toList ++ RP.joined (ts.map (·.data.toList)) := rfl
    rw [e, List.length_append, RP.pack_len]
    unfold strs at ih ⊢
    rw [List.map_cons, Rows.uptoBulkAll]
    simp only [Rows.uptoBulk]
    omega
theorem lists_arg {H : Type} {enc : TypeId × Value → H} {W : World} {spare : Nat → Bool} {held : Bool} {fuel len cap : Nat} {a0 : Option Addr} {x : DataW H × List MemPlace}
    (h : DataW.trod enc Tryd.prog W 0 spare held fuel 22 (Value.slice a0 len cap).cells.toList = some x) :
    ∃ ls : List (List UInt8), ls.length = len ∧ RQ.Lay W a0 ls ∧ ls.length ≤ cap ∧ (∀ t ∈ ls, t.length ≤ maxLen) ∧ (RP.joined ls).length ≤ 8 * Rows.uptoBulk x.1 := by
  rcases open_strings Tryd.underlying22 Tryd.underlying9 (by kernel_rfl) h with ⟨hcs, hx⟩ | ⟨ad, len', cap', zs, hcs, _, hl, hm, hzl, hx, hcell, hwf⟩
  · simp [Value.cells] at hcs
    obtain ⟨rfl, rfl, rfl⟩ := hcs
    exact ⟨[], rfl, fun h => absurd h (by simp), by simp, fun n hn => absurd hn (by simp), by simp [RP.joined]⟩
  · simp [Value.cells] at hcs
    obtain ⟨rfl, rfl, rfl⟩ := hcs
    have hlz : len ≤ zs.length := by rw [hzl]; split <;> omega
    have hlen : ((zs.take len).map (·.data.toList)).length = len := by rw [List.length_map, List.length_take]; omega
    refine ⟨(zs.take len).map (·.data.toList), hlen, fun h0 => ?_, by rw [hlen]; exact hl, fun t ht => ?_, ?_⟩
    · rw [hlen] at h0
      obtain ⟨b, off, spot⟩ := ad
      have c0 := hcell 0 (by omega)
      have hspot : spot = none := by simpa [Addr.add] using World.cell?_spot c0
      subst hspot
      refine ⟨b, off, rfl, (World.block_lt_of_cell? _ _ c0 :), fun k r hk => ?_⟩
      have hkl : k < len := by have := (List.getElem?_eq_some_iff.1 hk).1; omega
      have d0 := hcell k (by omega)
      rw [add_plain] at d0
      rw [List.getElem?_map, List.getElem?_take_of_lt hkl] at hk
      obtain ⟨z, hz, rfl⟩ := Option.map_eq_some_iff.1 hk
      rw [List.getD_eq_getElem?_getD, hz] at d0
      rw [d0]
      unfold RQ.txt
      rw [← RQ.bytes_is]
      rfl
    · obtain ⟨z, hz, rfl⟩ := List.mem_map.1 ht
      rw [← Lib.size_eq]
      exact hwf z (List.mem_of_mem_take hz)
    · subst hx
      simp only [Rows.uptoBulk]
      have := joined_bulk (H := H) (zs.take len)
      omega
theorem frames_joined : ∀ (ls : List (List UInt8)) (n : Nat), (LP.framesL n ls).length ≤ 2 * (RP.joined ls).length
  | [], _ => Nat.zero_le _
  | p :: ls, n => by
    have ih := frames_joined ls (n + 1)
    have e : RP.joined (p :: ls) = RP.packL p ++ RP.joined ls := rfl
    rw [LP.framesL, e, List.length_append, List.length_append, LP.frame_len, RP.pack_len]
    omega
theorem fault_arg {H : Type} {enc : TypeId × Value → H} {W : World} {r : Reach} {base b0 : Nat} {spare : Nat → Bool} {held : Bool} {v : Value} {d : DataW H} {p : List MemPlace} (hv : Value.okWide Tryd.prog W r b0 24 v) (h : DataW.Trod enc Tryd.prog W base spare held 24 v d p) :
    ∃ (cut flip : Int) (x : UInt8), v = LN.faultV cut flip x ∧ -9223372036854775808 ≤ cut ∧ cut ≤ 9223372036854775807 ∧ -9223372036854775808 ≤ flip ∧ flip ≤ 9223372036854775807 := by
  obtain ⟨v0, v1, v2, y0, y1, y2, n, rfl, _, _, t0, t1, t2⟩ := Go.Joins.open_agg3 (P := Tryd.prog) (t := 24) Tryd.underlying24 (by kernel_rfl) (by kernel_rfl) hv h
  obtain ⟨a, f0, _, w0⟩ := DataW.trod_int (by exact Tryd.underlying3) t0
  obtain ⟨b, f1, _, w1⟩ := DataW.trod_int (by exact Tryd.underlying3) t1
  obtain ⟨c, f2, _, w2⟩ := DataW.trod_int (by exact Tryd.underlying5) t2
  simp only [List.cons.injEq, and_true] at f0 f1 f2
  have ha := bounds_i64 w0
  have hb := bounds_i64 w1
  have hc := bounds_u8 w2
  have ey : c = (((UInt8.ofNat c.toNat).toNat : Nat) : Int) := by
    have : (UInt8.ofNat c.toNat).toNat = c.toNat := by simp; omega
    rw [this]
    omega
  refine ⟨a, b, UInt8.ofNat c.toNat, ?_, ha.1, ha.2, hb.1, hb.2⟩
  unfold LN.faultV
  rw [f0, f1, f2, ← ey]
end FR
end Go.Proofs.YtbklnijmalnnoaaDoor
