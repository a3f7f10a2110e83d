/- ArchBares answers true for every list of nodes, of bulk at most 1048576; it reads behind the call as it read before. Condition: Go's two tables utf8.first and utf8.acceptRanges, and the program's table hash.checks, lie as their texts lay them (tied to those texts). -/
import Derived.Test.YtfkaackhikbbkaaGreatDoorArBares
import Derived.Test.YtfkaackhikbbkaaGreatDoorArSmall
import Derived.Test.YtfkaackhikbbkaaGreatDoorArFrameB
import Derived.Test.YtfkaackhikbbkaaGreatDoorKit
import Derived.Test.YtfkaackhikbbkaaGreatDoorCards
import Derived.Test.YtfkaackhikbbkaaGreatDoorTie
namespace Go.Proofs.YtfkaackhikbbkaaGreatDoor
open Go.ChangeShapes Go.WideShapes Go.ChangeAt Go.RowKit Go.Lib
open Go.ChangeMaps (open_string shut_string)
namespace ArchBaresCard


set_option maxRecDepth 100000 in
theorem contract (H : Type) (enc : TypeId × Value → H) (W : World) (base : Nat) (args : Array Value) (ds gs : List (DataW H)) (before : List MemPlace)
    (hval : ∀ (j : Nat) t v, Tryz.f3.params[j]? = some t → args[j]? = some v → Value.okWide Tryz.prog W .any base t v)
    (hW : DataW.Whole enc Tryz.prog Tryz.f3.params.toList Rows.archBaresSpec.vars false W args.toList ds gs before) (hk : Rows.uptoSmall H (ds ++ gs) = true) (hL : laidMetH Tryz.prog FB.laid W) (hsh : W.ShapedOpen Tryz.prog) :
    Calls Tryz.prog 3 args W fun e W' => ∃ v, e = .returned v ∧ Rows.archBaresSpec.post enc Tryz.prog Tryz.f3 false true false false W args v W' := by
  have hW' := hW
  obtain ⟨p, q, hA0, hV, rfl, hfz, hnd⟩ := hW
  have hA : DataW.TrodAll enc Tryz.prog W 0 (fun _ => true) true Tryz.f3.params.toList args.toList ds p := hA0
  rw [Tryz.params3] at hA hval
  obtain ⟨v0, vs0, d0, ds0, p0, q0, hargs, rfl, rfl, h0, r0⟩ := trodAll_cons hA
  obtain ⟨rfl, rfl, rfl⟩ := trodAll_nil r0
  obtain rfl : args = #[v0] := by cases args; simp_all
  obtain ⟨rfl, rfl⟩ := trodVars_none hV
  refine LK.post_of rfl (by kernel_rfl) (by kernel_rfl) (fun gs h => by subst h; rfl) hW' ?_
  have hb := of_decide_eq_true hk
  simp only [List.append_nil, List.cons_append, List.nil_append, Rows.uptoBulkAll] at hb
  obtain ⟨a0, len0, cap0, rfl⟩ := okWide_slice Tryz.underlying22 (hval 0 22 v0 rfl rfl)
  obtain ⟨fuel0, hf0⟩ := h0
  have hfew := FS.nodes_few hf0 (by simp only [] at hb ⊢; omega)
  obtain ⟨ts, rfl, H0, G0⟩ := FS.nodes_small hf0 (by simp only [] at hb ⊢; omega)
  exact AL.bares_any a0 cap0 ts W (FB.env_of hL hsh).1 (FB.env_of hL hsh).2 H0 G0 hfew
theorem reads (os : Os) {H : Type} (enc : TypeId × Value → H) : ∃ places, DataW.whole enc Tryz.prog (FB.w0 os #[.slice none 0 0]).memory Tryz.f3.params.toList Rows.archBaresSpec.vars false #[Value.slice none 0 0].toList 8 = some ([.nil], [], places) :=
  ⟨[], by kernel_rfl⟩
set_option maxRecDepth 100000 in
theorem lifted (os : Os) (started : os.Started) (H : Type) (enc : TypeId × Value → H) (F : Stop.Interp) :
    ReturnsInHanded {} Tryz.checked os 3 .any ((Rows.OpenSpec.upto Rows.archBaresSpec).preRow enc Tryz.prog Tryz.f3 Rows.archBaresUptoRow.domain false Rows.archBaresUptoRow.laid) (((Rows.OpenSpec.upto Rows.archBaresSpec).at F).post enc Tryz.prog Tryz.f3 false true false false) := by
  obtain ⟨places, hx⟩ := reads os enc
  refine returnsInHanded_of_row (C := Tryz.checked) (s := Rows.OpenSpec.upto Rows.archBaresSpec) (laid := FB.laid) FB.own started (by kernel_rfl) Tryz.func3
    (FB.witness (enc := enc) #[.slice none 0 0] (by kernel_rfl)
      (OpenSpec.preRow_of_cond 8 hx (by kernel_rfl) (fun k hk => by cases hk; kernel_rfl) (by kernel_rfl) (FB.met os _))) ?_
  intro W base args ds gs before hval hW _ hcond _ hL hsh _
  exact contract H enc W base args ds gs before hval hW (hcond _ rfl) hL hsh
theorem said : Rows.ArchBaresUptoSaid :=
  OpenClaim.holds_of_cond 3 Tryz.f3 rfl rfl rfl rfl rfl rfl rfl ⟨rfl, rfl, rfl, rfl, rfl⟩ rfl rfl rfl rfl rfl (by kernel_rfl) Tryz.func3 (by kernel_rfl)
    (of_decide_eq_true (by kernel_rfl)) (by unfold Func.isWrapper; first | (rw [if_pos (by decide +kernel)]; kernel_rfl) | (rw [if_neg (by decide +kernel)]; exact ⟨rfl, rfl⟩))
    (fun os started H enc _ F => by rw [OpenClaim.pre_eq_preRow]; exact lifted os started H enc F)
theorem plain (f : FuncId) (fn : Func) (hf : Tryz.pinned.checked.prog.funcNamed "hawser/hawserlaw09.ArchBares" = some f) (hfn : Tryz.pinned.checked.prog.funcs[f]? = some fn) :
    false = Tryz.pinned.checked.prog.looks [] ∧ ∀ (j : Nat) t, fn.params[j]? = some t → Tryz.pinned.checked.prog.wantsStandIn t = false := by
  obtain rfl : f = 3 := Option.some.inj ((show Tryz.prog.funcNamed "hawser/hawserlaw09.ArchBares" = some 3 by kernel_rfl).symm.trans hf) |>.symm
  obtain rfl : fn = Tryz.f3 := (Option.some.inj (Tryz.func3.symm.trans hfn)).symm
  refine ⟨by kernel_rfl, fun j t ht => ?_⟩
  have hall : (Tryz.f3.params.all fun t => !(Tryz.prog.wantsStandIn t)) = true := by kernel_rfl
  have := (Array.all_eq_true_iff_forall_mem.1 hall) t (Array.mem_of_getElem? ht)
  have h2 : Tryz.prog.wantsStandIn t = false := by simpa using this
  exact h2
end ArchBaresCard
theorem archBaresUpto_card : Rows.ArchBaresUptoCardSaid :=
  Claim7.holds_tied_plain_at .later [] _ _ _ _ ArchBaresCard.said (fun _ h => by cases h) (by kernel_rfl) (fun _ h => by cases h) archBaresUpto_row_tie rfl ⟨rfl, rfl⟩ (by kernel_rfl) rfl ArchBaresCard.plain (by kernel_rfl)
#print axioms archBaresUpto_card
end Go.Proofs.YtfkaackhikbbkaaGreatDoor
