/- What the rows of layer 9 share: what their world holds of Go's tables and the check sum's, the witness's world, archives out of the arguments. -/
import Derived.Test.YtfkaackhikbbkaaGreatDoorArAw
import Derived.Test.YtfkaackhikbbkaaGreatDoorNameFrame
import Derived.Test.YtfkaackhikbbkaaGreatDoorKit
import Derived.Lib.SmallJoins
import Derived.SliceStrings
namespace Go.Proofs.YtfkaackhikbbkaaGreatDoor
open Go.ChangeShapes Go.WideShapes Go.ChangeAt Go.RowKit Go.Lib
namespace FA

theorem own : ownKnob Tryz.prog.godebug = none := by kernel_rfl
def laid : List (String × DataW Unit) := [("hawser/hash.checks", Rows.laid_hawser_hash_checks), ("unicode/utf8.acceptRanges", Rows.laid_unicode_utf8_acceptRanges), ("unicode/utf8.first", Rows.laid_unicode_utf8_first)]
theorem tab_cell {W : World} {name : String} {d : DataW Unit} {zs : List Int} {g t e n : Nat} (hr : VarReads Tryz.prog W name d) (hd : d = tabData .u32 zs) (hg : Tryz.prog.globalNamed name = some g)
    (hty : (Tryz.prog.globals[g]?).map (·.type) = some t) (ht : Tryz.prog.underlying t = some (.array n e)) (he : Tryz.prog.underlying e = some (.int .u32)) (hce : Tryz.prog.cellsOf e = 1) (hct : Tryz.prog.cellsOf t = n)
    (i : Nat) (hi : i < zs.length) : W.cell? ⟨g, i, none⟩ = some (.int .u32 (zs.getD i 0)) := by
  obtain ⟨g', t', cs, fuel, p, hg', hty', hvar, htr⟩ := hr
  obtain rfl := Option.some.inj (hg.symm.trans hg')
  obtain rfl := Option.some.inj (hty.symm.trans hty')
  subst hd
  have hcs := cells_of_tab ht he hce hct htr
  have := World.var?_cell hg hvar i
  rw [this, ← Array.getElem?_toList, hcs]
  simp [List.getD, hi]
theorem checks_is : (Rows.laid_hawser_hash_checks : DataW Unit) = tabData .u32 ((List.range 16).map fun i => ((HP.csts 4 i : Nat) : Int)) := by kernel_rfl
theorem env_of {W : World} (hL : laidMetH Tryz.prog laid W) (hsh : W.ShapedOpen Tryz.prog) : AR.Env W := by
  rw [MakeChecks.laidMetH_plain _ _ _ (by kernel_rfl)] at hL
  refine ⟨⟨utf8Tabs_of_readsT (U8Types.of196 Tryz.laysValid) ⟨by kernel_rfl, by kernel_rfl, by kernel_rfl, by kernel_rfl, by kernel_rfl, by kernel_rfl, by kernel_rfl⟩ ?_ ?_, FR.max_cell W hsh⟩, ⟨fun i hi => ?_⟩⟩
  · have := Lib.laidMet.reads hL (.tail _ (.tail _ (.head _)))
    rw [FR.first_eq] at this
    exact this
  · have := Lib.laidMet.reads hL (.tail _ (.head _))
    rw [FR.accept_eq] at this
    exact this
  · have r1 := Lib.laidMet.reads hL (.head _)
    have h := tab_cell (g := 2) (t := 157) (e := 79) (n := 16) r1 checks_is (by kernel_rfl) (by kernel_rfl) Tryz.underlying157 Tryz.underlying79 (by kernel_rfl) (by kernel_rfl) i (by simpa using hi)
    rw [h, List.getD_eq_getElem?_getD, List.getElem?_map, List.getElem?_range hi]
    rfl
/-- The witness's world: the tables lie in it as Go's text lays them. -/
noncomputable def w0 (os : Os) (args : Array Value) : World := (World.laidAll Tryz.prog os laid).forCall (fun _ _ => 0) ⟨#[], args, []⟩
theorem shaped (os : Os) (args : Array Value) : (w0 os args).Shaped Tryz.prog := World.shaped_of_ZipB (by kernel_rfl) (by kernel_rfl)
theorem met (os : Os) (args : Array Value) : laidMetH Tryz.prog laid (w0 os args).memory := by
  rw [MakeChecks.laidMetH_plain _ _ _ (by kernel_rfl)]
  exact laidMet_laidAll _ (by kernel_rfl) (by kernel_rfl)
theorem witness {H : Type} {enc : TypeId × Value → H} {os : Os} {f : FuncId} {fn : Func} {s : OpenSpec} {conds : List PathCond} {apart : Bool} (args : Array Value)
    (hok : Input.okWideB Tryz.checked.prog (w0 os args) f ⟨#[], args, []⟩ = true)
    (hrow : s.preRow enc Tryz.checked.prog fn conds apart laid (w0 os args).memory args) :
    ∃ (w : World) (tape : Tape) (i : Input), w.os = os ∧ (w.forCall tape i).Shaped Tryz.checked.prog ∧ i.vars = [] ∧ Input.okWide Tryz.checked.prog (w.forCall tape i) .any w.heap.size f i ∧
      s.preRow enc Tryz.checked.prog fn conds apart laid (w.forCall tape i).memory i.args ∧ ({} : Assume).holds Tryz.checked.prog (lone (Frame.enter Tryz.checked.prog f i.args .normal) [] (w.forCall tape i)) :=
  ⟨World.laidAll Tryz.prog os laid, fun _ _ => 0, ⟨#[], args, []⟩, World.laidAll_os _ _ _, shaped os args, (Input.okWide_of_okWideB (base := 0) hok).1, (Input.okWide_of_okWideB hok).2, hrow, by
    simp only [Assume.holds]
    exact ⟨by simp, by simp, fun _ => Modest.zero, by simp, by simp⟩⟩

open AP AR TP TM TG TW
section
open Go.Deep
variable {H : Type} {enc : TypeId × Value → H} {P : Program} {w : World} {base : Nat} {spare : Nat → Bool} {held : Bool}
theorem open_threes {t e : TypeId} {f0 f1 f2 : Field} {fuel : Nat} {cs : List Value} {x : DataW H × List MemPlace} (ht : P.underlying t = some (.slice e)) (he : P.underlying e = some (.struct #[f0, f1, f2]))
    (ce : P.cellsOf e = 3) (o0 : f0.offset = 0) (o1 : f1.offset = 1) (o2 : f2.offset = 2) (c0 : P.cellsOf f0.type = 1) (c1 : P.cellsOf f1.type = 1) (c2 : P.cellsOf f2.type = 1)
    (h : DataW.trod enc P w base spare held fuel t cs = some x) :
    cs = [.slice none 0 0] ∨
    ∃ (a : Addr) (len cap n : Nat) (D : Nat → DataW H) (sp : List (DataW H)), cs = [.slice (some a) len cap] ∧ len ≤ cap ∧ cap ≤ maxLen ∧ x.1 = .slice ((List.range len).map D) sp ∧
      ∀ i, i < len → ∃ (v0 v1 v2 : Value) (y0 y1 y2 : DataW H × List MemPlace), w.cell? (a.add (i * 3)) = some v0 ∧ w.cell? (a.add (i * 3 + 1)) = some v1 ∧ w.cell? (a.add (i * 3 + 2)) = some v2 ∧
        D i = .agg [y0.1, y1.1, y2.1] ∧
        DataW.trod enc P w base spare held n f0.type [v0] = some y0 ∧ DataW.trod enc P w base spare held n f1.type [v1] = some y1 ∧ DataW.trod enc P w base spare held n f2.type [v2] = some y2 := by
  rcases open_slice ht h with h0 | ⟨a, len, cap, m, n, D, Pl, rfl, hb, hl, hm, hmm, rfl, hx⟩
  · exact Or.inl h0.1
  right
  have hlm : len ≤ m := by rw [hmm]; split <;> omega
  refine ⟨a, len, cap, n - 1, D, _, rfl, hl, hm, rfl, fun i hi => ?_⟩
  obtain ⟨cs', h1, h2⟩ := hx i (by omega)
  rw [ce] at h1
  obtain ⟨_, hlen, hcell⟩ := World.cells?_some h1
  obtain ⟨xs, k, hk, hxy, _, hxl, hf⟩ := DataW.trod_struct he h2
  have hk' : k = n - 1 := by omega
  subst hk'
  match xs, hxl, cs', hlen with
  | [y0, y1, y2], _, [v0, v1, v2], _ =>
    have g0 := hf 0 f0 rfl
    have g1 := hf 1 f1 rfl
    have g2 := hf 2 f2 rfl
    simp [o0, o1, o2, c0, c1, c2] at g0 g1 g2
    have e0 := hcell 0 (by omega)
    have e1 := hcell 1 (by omega)
    have e2 := hcell 2 (by omega)
    rw [add_add] at e0 e1 e2
    simp only [Prod.mk.injEq] at hxy
    exact ⟨v0, v1, v2, y0, y1, y2, by simpa using e0, by simpa using e1, by simpa using e2, hxy.1, g0, g1, g2⟩
theorem slice_shape {t e : TypeId} {fuel : Nat} {v : Value} {x : DataW H × List MemPlace} (ht : P.underlying t = some (.slice e)) (h : DataW.trod enc P w base spare held fuel t [v] = some x) : ∃ a len cap, v = .slice a len cap := by
  rcases open_slice ht h with h0 | ⟨a, len, cap, m, n, D, Pl, h1, _⟩
  · have := h0.1
    simp only [List.cons.injEq, and_true] at this
    exact ⟨_, _, _, this⟩
  · simp only [List.cons.injEq, and_true] at h1
    exact ⟨_, _, _, h1⟩
end
theorem wf_fits {n : Int} (h : (Lit.int .i64 n).wf = true) : Fits n := by
  unfold Fits
  simp [Lit.wf, IntKind.bits, IntKind.signed, IntKind.min, IntKind.max] at h
  omega
theorem stamps_wide {H : Type} {enc : TypeId × Value → H} {W : World} {spare : Nat → Bool} {held : Bool} {fuel len cap : Nat} {a0 : Option Addr} {x : DataW H × List MemPlace}
    (h : DataW.trod enc Tryz.prog W 0 spare held fuel 33 [Value.slice a0 len cap] = some x) :
    ∃ us : List Sm, us.length = len ∧ WideM W a0 us ∧ ∀ s ∈ us, FitS s := by
  rcases open_threes Tryz.underlying33 Tryz.underlying67 (by kernel_rfl) rfl rfl rfl (by kernel_rfl) (by kernel_rfl) (by kernel_rfl) h with hcs | ⟨ad, len', cap', n, D, sp, hcs, hl, hm, hx, hcell⟩
  · simp at hcs
    obtain ⟨rfl, rfl, rfl⟩ := hcs
    exact ⟨[], rfl, ⟨LayM.nil W _, Nat.zero_le _⟩, fun s hs => by simp at hs⟩
  · simp at hcs
    obtain ⟨rfl, rfl, rfl⟩ := hcs
    have hlen : len ≤ maxLen := Nat.le_trans hl hm
    have hch : ∀ i, i < len → ∃ r : Sm, W.cell? (ad.add (i * 3)) = some (.int .i64 r.ino) ∧ W.cell? (ad.add (i * 3 + 1)) = some (.int .i64 r.size) ∧ W.cell? (ad.add (i * 3 + 2)) = some (.int .i64 r.time) ∧ FitS r := by
      intro i hi
      obtain ⟨v0, v1, v2, y0, y1, y2, e0, e1, e2, hD, t0, t1, t2⟩ := hcell i hi
      obtain ⟨k0, f0, _, g0⟩ := DataW.trod_int (by exact Tryz.underlying3) t0
      obtain ⟨k1, f1, _, g1⟩ := DataW.trod_int (by exact Tryz.underlying3) t1
      obtain ⟨k2, f2, _, g2⟩ := DataW.trod_int (by exact Tryz.underlying3) t2
      simp only [List.cons.injEq, and_true] at f0 f1 f2
      exact ⟨⟨k0, k1, k2⟩, by rw [e0, f0], by rw [e1, f1], by rw [e2, f2], ⟨wf_fits g0, wf_fits g1, wf_fits g2⟩⟩
    haveI : Inhabited Sm := ⟨⟨0, 0, 0⟩⟩
    obtain ⟨R, hR⟩ := Deep.choose_lt hch
    have hrl : ((List.range len).map R).length = len := by simp
    refine ⟨(List.range len).map R, hrl, ⟨fun h0 => ?_, by rw [hrl]; exact hlen⟩, fun m hm => ?_⟩
    · rw [hrl] at h0
      obtain ⟨b, off, spot⟩ := ad
      have c0 := (hR 0 (by omega)).1
      have hspot : spot = none := by simpa [Addr.add] using World.cell?_spot c0
      subst hspot
      rw [TF.add_plain] at c0
      refine ⟨b, off, rfl, (World.block_lt_of_cell? _ _ c0 :), fun k r hk => ?_⟩
      have hkl : k < len := by have := (List.getElem?_eq_some_iff.1 hk).1; rw [hrl] at this; exact this
      rw [List.getElem?_map, List.getElem?_range hkl] at hk
      simp only [Option.map_some, Option.some.injEq] at hk
      subst hk
      obtain ⟨d0, d1, d2, _⟩ := hR k hkl
      rw [TF.add_plain] at d0 d1 d2
      exact ⟨d0, by rw [← d1, Nat.add_assoc], by rw [← d2, Nat.add_assoc]⟩
    · obtain ⟨i, hi, rfl⟩ := List.mem_map.1 hm
      exact (hR i (List.mem_range.1 hi)).2.2.2
set_option maxRecDepth 100000 in
theorem arch_arg {H : Type} {enc : TypeId × Value → H} {W : World} {r : Reach} {b0 : Nat} {spare : Nat → Bool} {held : Bool} {v : Value} {d : DataW H} {p : List MemPlace} (hv : Value.okWide Tryz.prog W r b0 35 v) (h : DataW.Trod enc Tryz.prog W 0 spare held 35 v d p) :
    ∃ (a : Ar) (ao : Option Addr) (ca : Nat) (so : Option Addr) (sc : Nat), v = arVal a ao ca so sc ∧ ArAt W a ao ca so := by
  obtain ⟨v0, v1, v2, v3, y0, y1, y2, y3, n, rfl, _, _, t0, t1, t2, t3⟩ := Go.Joins.open_agg4 (P := Tryz.prog) (t := 35) Tryz.underlying35 (by kernel_rfl) (by kernel_rfl) hv h
  obtain ⟨s0, f0, g0, w0⟩ := DataW.trod_string (by exact Tryz.underlying9) t0
  obtain ⟨k1, f1, _, g1⟩ := DataW.trod_int (by exact Tryz.underlying3) t1
  simp only [List.cons.injEq, and_true] at f0 f1
  obtain ⟨ao, la, ca, rfl⟩ := slice_shape Tryz.underlying22 t2
  obtain ⟨so, ls, sc, rfl⟩ := slice_shape Tryz.underlying33 t3
  obtain ⟨ts, rfl, h2⟩ := TF.nodes_wide t2
  obtain ⟨us, rfl, h3, h4⟩ := stamps_wide t3
  refine ⟨⟨s0.data.toList, k1, ts, us⟩, ao, ca, so, sc, ?_, h2, h3, by show s0.data.toList.length ≤ _; rw [← Lib.size_eq]; exact w0, ⟨wf_fits g1, h4⟩⟩
  unfold arVal
  rw [f0, f1, txt_data]
end FA
end Go.Proofs.YtfkaackhikbbkaaGreatDoor
