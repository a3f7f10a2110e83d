/- DeltaTells answers true for every two texts and every size and list of blocks, of bulk at most 1048576; they read behind the call as they read before. Condition: the program's two tables (the fingerprint's first values and constants) lie as its text lays them (tied to that text). -/
import Derived.Test.YtmpmmebmhffaeaaDoorQDlTells
import Derived.Test.YtmpmmebmhffaeaaDoorQDlAsk
import Derived.Test.YtmpmmebmhffaeaaDoorQDlFrame
import Derived.Test.YtmpmmebmhffaeaaDoorQKit
import Derived.Test.YtmpmmebmhffaeaaDoorCards
import Derived.Test.YtmpmmebmhffaeaaDoorTie
set_option linter.all false
namespace Go.Proofs.YtmpmmebmhffaeaaDoor
open Go.ChangeShapes Go.WideShapes Go.ChangeAt Go.RowKit Go.Lib
open Go.ChangeMaps (open_string shut_string)
namespace DeltaTellsCard


set_option maxRecDepth 100000 in
theorem contract (H : Type) (enc : TypeId × Value → H) (W : World) (base : Nat) (args : Array Value) (ds gs : List (DataW H)) (before : List MemPlace)
    (hval : ∀ (j : Nat) t v, Tryd.f3.params[j]? = some t → args[j]? = some v → Value.okWide Tryd.prog W .any base t v)
    (hW : DataW.Whole enc Tryd.prog Tryd.f3.params.toList Rows.deltaTellsSpec.vars false W args.toList ds gs before) (hk : Rows.uptoSmall H (ds ++ gs) = true) (hL : laidMetH Tryd.prog FR.laid W) (hsh : W.ShapedOpen Tryd.prog) :
    Calls Tryd.prog 3 args W fun e W' => ∃ v, e = .returned v ∧ Rows.deltaTellsSpec.post enc Tryd.prog Tryd.f3 false true false false W args v W' := by
  have hW' := hW
  obtain ⟨p, q, hA0, hV, rfl, hfz, hnd⟩ := hW
  have hA : DataW.TrodAll enc Tryd.prog W 0 (fun _ => true) true Tryd.f3.params.toList args.toList ds p := hA0
  rw [Tryd.params3] at hA hval
  obtain ⟨v0, vs0, d0, ds0, p0, q0, hargs, rfl, rfl, h0, r0⟩ := trodAll_cons hA
  obtain ⟨v1, vs1, d1, ds1, p1, q1, rfl, rfl, rfl, h1, r1⟩ := trodAll_cons r0
  obtain ⟨v2, vs2, d2, ds2, p2, q2, rfl, rfl, rfl, h2, r2⟩ := trodAll_cons r1
  obtain ⟨rfl, rfl, rfl⟩ := trodAll_nil r2
  obtain rfl : args = #[v0, v1, v2] := by cases args; simp_all
  obtain ⟨rfl, rfl⟩ := trodVars_none hV
  refine LK.post_of rfl (by kernel_rfl) (by kernel_rfl) (fun gs h => by subst h; rfl) hW' ?_
  have hb := of_decide_eq_true hk
  simp only [List.append_nil, List.cons_append, List.nil_append, Rows.uptoBulkAll] at hb
  obtain ⟨a, rfl, rfl, rfl, wa⟩ := open_string Tryd.underlying9 (hval 0 9 v0 rfl rfl) h0
  obtain ⟨b, rfl, rfl, rfl, wb⟩ := open_string Tryd.underlying9 (hval 1 9 v1 rfl rfl) h1
  simp only [Rows.uptoBulk] at hb
  obtain ⟨z, a2, cap2, L, rfl, HL, hl1, hl2⟩ := DM.asked_arg (hval 2 24 v2 rfl rfl) h2 (by first | omega | (simp only [] at hb ⊢; omega) | (simp only [] at hb; omega) | (simp only []; omega))
  have la : a.size ≤ 1048576 := by rw [Lib.size_eq]; first | omega | (simp only [] at hb ⊢; omega) | (simp only [] at hb; omega)
  have lb : b.size ≤ 1048576 := by rw [Lib.size_eq]; first | omega | (simp only [] at hb ⊢; omega) | (simp only [] at hb; omega)
  exact DM.tells_law a b z L a2 cap2 W (FR.env_of hL) HL la lb hl1 hl2
theorem reads (os : Os) {H : Type} (enc : TypeId × Value → H) : ∃ places, DataW.whole enc Tryd.prog (FR.w0 os #[.string ⟨#[]⟩, .string ⟨#[]⟩, .agg #[.int .i64 0, .slice none 0 0]]).memory Tryd.f3.params.toList Rows.deltaTellsSpec.vars false #[Value.string ⟨#[]⟩, .string ⟨#[]⟩, .agg #[.int .i64 0, .slice none 0 0]].toList 8 = some ([.lit (.string []), .lit (.string []), .agg [.lit (.int .i64 0), .nil]], [], places) :=
  ⟨[], by kernel_rfl⟩
set_option maxRecDepth 100000 in
theorem lifted (os : Os) (started : os.Started) (H : Type) (enc : TypeId × Value → H) (F : Stop.Interp) :
    ReturnsInHanded {} Tryd.checked os 3 .any ((Rows.OpenSpec.upto Rows.deltaTellsSpec).preRow enc Tryd.prog Tryd.f3 Rows.deltaTellsUptoRow.domain false Rows.deltaTellsUptoRow.laid) (((Rows.OpenSpec.upto Rows.deltaTellsSpec).at F).post enc Tryd.prog Tryd.f3 false true false false) := by
  obtain ⟨places, hx⟩ := reads os enc
  refine returnsInHanded_of_row (C := Tryd.checked) (s := Rows.OpenSpec.upto Rows.deltaTellsSpec) (laid := FR.laid) FR.own started (by kernel_rfl) Tryd.func3
    (FR.witness (enc := enc) #[.string ⟨#[]⟩, .string ⟨#[]⟩, .agg #[.int .i64 0, .slice none 0 0]] (by kernel_rfl)
      (OpenSpec.preRow_of_cond 8 hx (by kernel_rfl) (fun k hk => by cases hk; kernel_rfl) (by kernel_rfl) (FR.met os _))) ?_
  intro W base args ds gs before hval hW _ hcond _ hL hsh _
  exact contract H enc W base args ds gs before hval hW (hcond _ rfl) hL hsh
theorem said : Rows.DeltaTellsUptoSaid :=
  OpenClaim.holds_of_cond 3 Tryd.f3 rfl rfl rfl rfl rfl rfl rfl ⟨rfl, rfl, rfl, rfl, rfl⟩ rfl rfl rfl rfl rfl (by kernel_rfl) Tryd.func3 (by kernel_rfl)
    (of_decide_eq_true (by kernel_rfl)) (by unfold Func.isWrapper; first | (rw [if_pos (by decide +kernel)]; kernel_rfl) | (rw [if_neg (by decide +kernel)]; exact ⟨rfl, rfl⟩))
    (fun os started H enc _ F => by rw [OpenClaim.pre_eq_preRow]; exact lifted os started H enc F)
theorem plain (f : FuncId) (fn : Func) (hf : Tryd.pinned.checked.prog.funcNamed "hawser/hawserlaw14.DeltaTells" = some f) (hfn : Tryd.pinned.checked.prog.funcs[f]? = some fn) :
    false = Tryd.pinned.checked.prog.looks [] ∧ ∀ (j : Nat) t, fn.params[j]? = some t → Tryd.pinned.checked.prog.wantsStandIn t = false := by
  obtain rfl : f = 3 := Option.some.inj ((show Tryd.prog.funcNamed "hawser/hawserlaw14.DeltaTells" = some 3 by kernel_rfl).symm.trans hf) |>.symm
  obtain rfl : fn = Tryd.f3 := (Option.some.inj (Tryd.func3.symm.trans hfn)).symm
  refine ⟨by kernel_rfl, fun j t ht => ?_⟩
  have hall : (Tryd.f3.params.all fun t => !(Tryd.prog.wantsStandIn t)) = true := by kernel_rfl
  have := (Array.all_eq_true_iff_forall_mem.1 hall) t (Array.mem_of_getElem? ht)
  have h2 : Tryd.prog.wantsStandIn t = false := by simpa using this
  exact h2
end DeltaTellsCard
theorem deltaTellsUpto_card : Rows.DeltaTellsUptoCardSaid :=
  Claim7.holds_tied_plain_at .later [] _ _ _ _ DeltaTellsCard.said (fun _ h => by cases h) (by kernel_rfl) (fun _ h => by cases h) deltaTellsUpto_row_tie rfl ⟨rfl, rfl⟩ (by kernel_rfl) rfl DeltaTellsCard.plain (by kernel_rfl)
#print axioms deltaTellsUpto_card
end Go.Proofs.YtmpmmebmhffaeaaDoor
