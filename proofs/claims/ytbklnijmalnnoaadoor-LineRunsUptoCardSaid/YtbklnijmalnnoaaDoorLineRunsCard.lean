/- LineRuns answers true for every list of texts, every fault and every text, of bulk at most 1048576; they read behind the call as they read before. Condition: the program's table of the check sum lies as its text lays it (tied to that text). -/
import Derived.Test.YtbklnijmalnnoaaDoorQLnRun
import Derived.Test.YtbklnijmalnnoaaDoorQLnFrame
import Derived.Test.YtbklnijmalnnoaaDoorQKit
import Derived.Test.YtbklnijmalnnoaaDoorCards
import Derived.Test.YtbklnijmalnnoaaDoorTie
set_option linter.all false
namespace Go.Proofs.YtbklnijmalnnoaaDoor
open Go.ChangeShapes Go.WideShapes Go.ChangeAt Go.RowKit Go.Lib
open Go.ChangeMaps (open_string shut_string)
namespace LineRunsCard


set_option maxRecDepth 100000 in
theorem contract (H : Type) (enc : TypeId × Value → H) (W : World) (base : Nat) (args : Array Value) (ds gs : List (DataW H)) (before : List MemPlace)
    (hval : ∀ (j : Nat) t v, Tryd.f3.params[j]? = some t → args[j]? = some v → Value.okWide Tryd.prog W .any base t v)
    (hW : DataW.Whole enc Tryd.prog Tryd.f3.params.toList Rows.lineRunsSpec.vars false W args.toList ds gs before) (hk : Rows.uptoSmall H (ds ++ gs) = true) (hL : laidMetH Tryd.prog FR.laid W) (hsh : W.ShapedOpen Tryd.prog) :
    Calls Tryd.prog 3 args W fun e W' => ∃ v, e = .returned v ∧ Rows.lineRunsSpec.post enc Tryd.prog Tryd.f3 false true false false W args v W' := by
  have hW' := hW
  obtain ⟨p, q, hA0, hV, rfl, hfz, hnd⟩ := hW
  have hA : DataW.TrodAll enc Tryd.prog W 0 (fun _ => true) true Tryd.f3.params.toList args.toList ds p := hA0
  rw [Tryd.params3] at hA hval
  obtain ⟨v0, vs0, d0, ds0, p0, q0, hargs, rfl, rfl, h0, r0⟩ := trodAll_cons hA
  obtain ⟨v1, vs1, d1, ds1, p1, q1, rfl, rfl, rfl, h1, r1⟩ := trodAll_cons r0
  obtain ⟨v2, vs2, d2, ds2, p2, q2, rfl, rfl, rfl, h2, r2⟩ := trodAll_cons r1
  obtain ⟨rfl, rfl, rfl⟩ := trodAll_nil r2
  obtain rfl : args = #[v0, v1, v2] := by cases args; simp_all
  obtain ⟨rfl, rfl⟩ := trodVars_none hV
  refine LK.post_of rfl (by kernel_rfl) (by kernel_rfl) (fun gs h => by subst h; rfl) hW' ?_
  have hb := of_decide_eq_true hk
  simp only [List.append_nil, List.cons_append, List.nil_append, Rows.uptoBulkAll] at hb
  obtain ⟨a0, len, cap, rfl⟩ := okWide_slice Tryd.underlying22 (hval 0 22 v0 rfl rfl)
  obtain ⟨fuel, hf⟩ := h0
  obtain ⟨ls, rfl, hL0, hcap, hpm, hjm⟩ := FR.lists_arg hf
  obtain ⟨cut, flip, x, rfl, b0, b1, b2, b3⟩ := FR.fault_arg (hval 1 24 v1 rfl rfl) h1
  obtain ⟨s, rfl, rfl, rfl, ws⟩ := open_string Tryd.underlying9 (hval 2 9 v2 rfl rfl) h2
  simp only [Rows.uptoBulk] at hb
  have e : Value.string s = RQ.txt s.data.toList := by unfold RQ.txt; rw [← RQ.bytes_is s]
  rw [e]
  have hj := FR.frames_joined ls 0
  exact LN.lruns_any a0 cap ls cut flip x s.data.toList W (FR.env_of hL) hL0 (by simp only [] at hjm; omega) (by omega) b0 b1 b2 b3
theorem reads (os : Os) {H : Type} (enc : TypeId × Value → H) : ∃ places, DataW.whole enc Tryd.prog (FR.w0 os #[.slice none 0 0, .agg #[.int .i64 0, .int .i64 0, .int .u8 0], .string ⟨#[]⟩]).memory Tryd.f3.params.toList Rows.lineRunsSpec.vars false #[Value.slice none 0 0, .agg #[.int .i64 0, .int .i64 0, .int .u8 0], .string ⟨#[]⟩].toList 8 = some ([.nil, .agg [.lit (.int .i64 0), .lit (.int .i64 0), .lit (.int .u8 0)], .lit (.string [])], [], places) :=
  ⟨[], by kernel_rfl⟩
set_option maxRecDepth 100000 in
theorem lifted (os : Os) (started : os.Started) (H : Type) (enc : TypeId × Value → H) (F : Stop.Interp) :
    ReturnsInHanded {} Tryd.checked os 3 .any ((Rows.OpenSpec.upto Rows.lineRunsSpec).preRow enc Tryd.prog Tryd.f3 Rows.lineRunsUptoRow.domain false Rows.lineRunsUptoRow.laid) (((Rows.OpenSpec.upto Rows.lineRunsSpec).at F).post enc Tryd.prog Tryd.f3 false true false false) := by
  obtain ⟨places, hx⟩ := reads os enc
  refine returnsInHanded_of_row (C := Tryd.checked) (s := Rows.OpenSpec.upto Rows.lineRunsSpec) (laid := FR.laid) FR.own started (by kernel_rfl) Tryd.func3
    (FR.witness (enc := enc) #[.slice none 0 0, .agg #[.int .i64 0, .int .i64 0, .int .u8 0], .string ⟨#[]⟩] (by kernel_rfl)
      (OpenSpec.preRow_of_cond 8 hx (by kernel_rfl) (fun k hk => by cases hk; kernel_rfl) (by kernel_rfl) (FR.met os _))) ?_
  intro W base args ds gs before hval hW _ hcond _ hL hsh _
  exact contract H enc W base args ds gs before hval hW (hcond _ rfl) hL hsh
theorem said : Rows.LineRunsUptoSaid :=
  OpenClaim.holds_of_cond 3 Tryd.f3 rfl rfl rfl rfl rfl rfl rfl ⟨rfl, rfl, rfl, rfl, rfl⟩ rfl rfl rfl rfl rfl (by kernel_rfl) Tryd.func3 (by kernel_rfl)
    (of_decide_eq_true (by kernel_rfl)) (by unfold Func.isWrapper; first | (rw [if_pos (by decide +kernel)]; kernel_rfl) | (rw [if_neg (by decide +kernel)]; exact ⟨rfl, rfl⟩))
    (fun os started H enc _ F => by rw [OpenClaim.pre_eq_preRow]; exact lifted os started H enc F)
theorem plain (f : FuncId) (fn : Func) (hf : Tryd.pinned.checked.prog.funcNamed "hawser/hawserlaw15.LineRuns" = some f) (hfn : Tryd.pinned.checked.prog.funcs[f]? = some fn) :
    false = Tryd.pinned.checked.prog.looks [] ∧ ∀ (j : Nat) t, fn.params[j]? = some t → Tryd.pinned.checked.prog.wantsStandIn t = false := by
  obtain rfl : f = 3 := Option.some.inj ((show Tryd.prog.funcNamed "hawser/hawserlaw15.LineRuns" = some 3 by kernel_rfl).symm.trans hf) |>.symm
  obtain rfl : fn = Tryd.f3 := (Option.some.inj (Tryd.func3.symm.trans hfn)).symm
  refine ⟨by kernel_rfl, fun j t ht => ?_⟩
  have hall : (Tryd.f3.params.all fun t => !(Tryd.prog.wantsStandIn t)) = true := by kernel_rfl
  have := (Array.all_eq_true_iff_forall_mem.1 hall) t (Array.mem_of_getElem? ht)
  have h2 : Tryd.prog.wantsStandIn t = false := by simpa using this
  exact h2
end LineRunsCard
theorem lineRunsUpto_card : Rows.LineRunsUptoCardSaid :=
  Claim7.holds_tied_plain_at .later [] _ _ _ _ LineRunsCard.said (fun _ h => by cases h) (by kernel_rfl) (fun _ h => by cases h) lineRunsUpto_row_tie rfl ⟨rfl, rfl⟩ (by kernel_rfl) rfl LineRunsCard.plain (by kernel_rfl)
#print axioms lineRunsUpto_card
end Go.Proofs.YtbklnijmalnnoaaDoor
