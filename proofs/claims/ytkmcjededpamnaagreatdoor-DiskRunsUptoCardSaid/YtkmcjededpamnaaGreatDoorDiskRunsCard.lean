/- DiskRuns answers true for every list of nodes, every weather and every list of calls, of bulk at most 1048576; they read behind the call as they read before. Condition: Go's two tables utf8.first and utf8.acceptRanges lie as Go's text lays them (tied to that text). -/
import Derived.Test.YtkmcjededpamnaaGreatDoorMg12
import Derived.Test.YtkmcjededpamnaaGreatDoorMg23
import Derived.Test.YtkmcjededpamnaaGreatDoorDkRu
import Derived.Test.YtkmcjededpamnaaGreatDoorCards
import Derived.Test.YtkmcjededpamnaaGreatDoorTie
set_option linter.all false
namespace Go.Proofs.YtkmcjededpamnaaGreatDoor
open Go.ChangeShapes Go.WideShapes Go.ChangeAt Go.RowKit Go.Lib
open Go.ChangeMaps (open_string shut_string)
namespace DiskRunsCard


set_option maxRecDepth 100000 in
theorem contract (H : Type) (enc : TypeId × Value → H) (W : World) (base : Nat) (args : Array Value) (ds gs : List (DataW H)) (before : List MemPlace)
    (hval : ∀ (j : Nat) t v, Tryz.f3.params[j]? = some t → args[j]? = some v → Value.okWide Tryz.prog W .any base t v)
    (hW : DataW.Whole enc Tryz.prog Tryz.f3.params.toList Rows.diskRunsSpec.vars false W args.toList ds gs before) (hk : Rows.uptoSmall H (ds ++ gs) = true) (hL : laidMetH Tryz.prog FR.laid W) (hsh : W.ShapedOpen Tryz.prog) :
    Calls Tryz.prog 3 args W fun e W' => ∃ v, e = .returned v ∧ Rows.diskRunsSpec.post enc Tryz.prog Tryz.f3 false true false false W args v W' := by
  have hW' := hW
  obtain ⟨p, q, hA0, hV, rfl, hfz, hnd⟩ := hW
  have hA : DataW.TrodAll enc Tryz.prog W 0 (fun _ => true) true Tryz.f3.params.toList args.toList ds p := hA0
  rw [Tryz.params3] at hA hval
  obtain ⟨v0, vs0, d0, ds0, p0, q0, hargs, rfl, rfl, h0, r0⟩ := trodAll_cons hA
  obtain ⟨v1, vs1, d1, ds1, p1, q1, rfl, rfl, rfl, h1, r1⟩ := trodAll_cons r0
  obtain ⟨v2, vs2, d2, ds2, p2, q2, rfl, rfl, rfl, h2, r2⟩ := trodAll_cons r1
  obtain ⟨rfl, rfl, rfl⟩ := trodAll_nil r2
  obtain rfl : args = #[v0, v1, v2] := by cases args; simp_all
  obtain ⟨rfl, rfl⟩ := trodVars_none hV
  refine LK.post_of rfl (by kernel_rfl) (by kernel_rfl) (fun gs h => by subst h; rfl) hW' ?_
  have hb := of_decide_eq_true hk
  simp only [List.append_nil, List.cons_append, List.nil_append, Rows.uptoBulkAll] at hb
  obtain ⟨a0, len0, cap0, rfl⟩ := okWide_slice Tryz.underlying22 (hval 0 22 v0 rfl rfl)
  obtain ⟨fuel0, hf0⟩ := h0
  obtain ⟨ts, rfl, H0⟩ := TF.nodes_arg hf0 (by show Rows.uptoBulk d0 ≤ 1048576; omega)
  obtain ⟨hW, hS, _⟩ := DA.wide_small H0
  obtain ⟨af, au, cf, cu, fs, es, vs, rfl, b1, b2, b3, b4, b5, b6⟩ := DA.weather_arg07 (hval 1 26 v1 rfl rfl) h1 (by omega)
  obtain ⟨a2, len2, cap2, rfl⟩ := okWide_slice Tryz.underlying27 (hval 2 27 v2 rfl rfl)
  obtain ⟨fuel2, hf2⟩ := h2
  obtain ⟨cs, rfl, hcap, hmax, hlay, hlong⟩ := DA.calls_bulk hf2 (by show Rows.uptoBulk d2 ≤ 1048576; omega)
  exact RK.druns_any a0 a2 cap0 cap2 ts cs fs af cf es vs au cu W (FR.env_of hL hsh) hW hS hlay hlong hcap hmax b1 b2 b3 b4 b5 b6
theorem reads (os : Os) {H : Type} (enc : TypeId × Value → H) : ∃ places, DataW.whole enc Tryz.prog (FR.w0 os #[.slice none 0 0, .agg #[.slice none 0 0, .slice none 0 0], .slice none 0 0]).memory Tryz.f3.params.toList Rows.diskRunsSpec.vars false #[Value.slice none 0 0, .agg #[.slice none 0 0, .slice none 0 0], .slice none 0 0].toList 8 = some ([.nil, .agg [.nil, .nil], .nil], [], places) :=
  ⟨[], by kernel_rfl⟩
set_option maxRecDepth 100000 in
theorem lifted (os : Os) (started : os.Started) (H : Type) (enc : TypeId × Value → H) (F : Stop.Interp) :
    ReturnsInHanded {} Tryz.checked os 3 .any ((Rows.OpenSpec.upto Rows.diskRunsSpec).preRow enc Tryz.prog Tryz.f3 Rows.diskRunsUptoRow.domain false Rows.diskRunsUptoRow.laid) (((Rows.OpenSpec.upto Rows.diskRunsSpec).at F).post enc Tryz.prog Tryz.f3 false true false false) := by
  obtain ⟨places, hx⟩ := reads os enc
  refine returnsInHanded_of_row (C := Tryz.checked) (s := Rows.OpenSpec.upto Rows.diskRunsSpec) (laid := FR.laid) FR.own started (by kernel_rfl) Tryz.func3
    (FR.witness (enc := enc) #[.slice none 0 0, .agg #[.slice none 0 0, .slice none 0 0], .slice none 0 0] (by kernel_rfl)
      (OpenSpec.preRow_of_cond 8 hx (by kernel_rfl) (fun k hk => by cases hk; kernel_rfl) (by kernel_rfl) (FR.met os _))) ?_
  intro W base args ds gs before hval hW _ hcond _ hL hsh _
  exact contract H enc W base args ds gs before hval hW (hcond _ rfl) hL hsh
theorem said : Rows.DiskRunsUptoSaid :=
  OpenClaim.holds_of_cond 3 Tryz.f3 rfl rfl rfl rfl rfl rfl rfl ⟨rfl, rfl, rfl, rfl, rfl⟩ rfl rfl rfl rfl rfl (by kernel_rfl) Tryz.func3 (by kernel_rfl)
    (of_decide_eq_true (by kernel_rfl)) (by unfold Func.isWrapper; first | (rw [if_pos (by decide +kernel)]; kernel_rfl) | (rw [if_neg (by decide +kernel)]; exact ⟨rfl, rfl⟩))
    (fun os started H enc _ F => by rw [OpenClaim.pre_eq_preRow]; exact lifted os started H enc F)
theorem plain (f : FuncId) (fn : Func) (hf : Tryz.pinned.checked.prog.funcNamed "hawser/hawserlaw07.DiskRuns" = some f) (hfn : Tryz.pinned.checked.prog.funcs[f]? = some fn) :
    false = Tryz.pinned.checked.prog.looks [] ∧ ∀ (j : Nat) t, fn.params[j]? = some t → Tryz.pinned.checked.prog.wantsStandIn t = false := by
  obtain rfl : f = 3 := Option.some.inj ((show Tryz.prog.funcNamed "hawser/hawserlaw07.DiskRuns" = some 3 by kernel_rfl).symm.trans hf) |>.symm
  obtain rfl : fn = Tryz.f3 := (Option.some.inj (Tryz.func3.symm.trans hfn)).symm
  refine ⟨by kernel_rfl, fun j t ht => ?_⟩
  have hall : (Tryz.f3.params.all fun t => !(Tryz.prog.wantsStandIn t)) = true := by kernel_rfl
  have := (Array.all_eq_true_iff_forall_mem.1 hall) t (Array.mem_of_getElem? ht)
  have h2 : Tryz.prog.wantsStandIn t = false := by simpa using this
  exact h2
end DiskRunsCard
theorem diskRunsUpto_card : Rows.DiskRunsUptoCardSaid :=
  Claim7.holds_tied_plain_at .later [] _ _ _ _ DiskRunsCard.said (fun _ h => by cases h) (by kernel_rfl) (fun _ h => by cases h) diskRunsUpto_row_tie rfl ⟨rfl, rfl⟩ (by kernel_rfl) rfl DiskRunsCard.plain (by kernel_rfl)
#print axioms diskRunsUpto_card
end Go.Proofs.YtkmcjededpamnaaGreatDoor
