/- HashOthers answers true for every text, every number and every two bytes of bulk at most 1048576; they read behind the call as they read before. Condition: the program's three tables lie as its text lays them (tied to that text). -/
import Derived.Test.YtphblgpimphgiaaDoorHashOthers
import Derived.Test.YtphblgpimphgiaaDoorHashArgs
import Derived.Test.YtphblgpimphgiaaDoorHashFrame
import Derived.Test.YtphblgpimphgiaaDoorKit
import Derived.Test.YtphblgpimphgiaaDoorCards
import Derived.Test.YtphblgpimphgiaaDoorTie
namespace Go.Proofs.YtphblgpimphgiaaDoor
open Go.ChangeShapes Go.WideShapes Go.ChangeAt Go.RowKit Go.Lib
open Go.ChangeMaps (open_string shut_string)
namespace OthersCard


set_option maxRecDepth 100000 in
theorem contract (H : Type) (enc : TypeId × Value → H) (W : World) (base : Nat) (args : Array Value) (ds gs : List (DataW H)) (before : List MemPlace)
    (hval : ∀ (j : Nat) t v, Tryd.f4.params[j]? = some t → args[j]? = some v → Value.okWide Tryd.prog W .any base t v)
    (hW : DataW.Whole enc Tryd.prog Tryd.f4.params.toList Rows.hashOthersSpec.vars false W args.toList ds gs before) (hk : Rows.uptoSmall H (ds ++ gs) = true) (hL : laidMetH Tryd.prog HF.laid W) :
    Calls Tryd.prog 4 args W fun e W' => ∃ v, e = .returned v ∧ Rows.hashOthersSpec.post enc Tryd.prog Tryd.f4 false true false false W args v W' := by
  have hW' := hW
  obtain ⟨p, q, hA0, hV, rfl, hfz, hnd⟩ := hW
  have hA : DataW.TrodAll enc Tryd.prog W 0 (fun _ => true) true Tryd.f4.params.toList args.toList ds p := hA0
  rw [Tryd.params4] at hA hval
  obtain ⟨v0, vs0, d0, ds0, p0, q0, hargs, rfl, rfl, h0, r0⟩ := trodAll_cons hA
  obtain ⟨v1, vs1, d1, ds1, p1, q1, rfl, rfl, rfl, h1, r1⟩ := trodAll_cons r0
  obtain ⟨v2, vs2, d2, ds2, p2, q2, rfl, rfl, rfl, h2, r2⟩ := trodAll_cons r1
  obtain ⟨rfl, rfl, rfl⟩ := trodAll_nil r2
  obtain rfl : args = #[v0, v1, v2] := by cases args; simp_all
  obtain ⟨rfl, rfl⟩ := trodVars_none hV
  refine LK.post_of rfl (by kernel_rfl) (by kernel_rfl) (fun gs h => by subst h; rfl) hW' ?_
  obtain ⟨a, rfl, rfl, rfl, wa⟩ := open_string Tryd.underlying9 (hval 0 9 v0 rfl rfl) h0
  obtain ⟨n, rfl, rfl, rfl, wn⟩ := open_int Tryd.underlying3 (hval 1 3 v1 rfl rfl) h1
  obtain ⟨bs, hbl, rfl⟩ := HF.open_bytes Tryd.underlying25 (by kernel_rfl) (hval 2 25 v2 rfl rfl) h2
  have hb := bounds_i64 wn
  have hbk := of_decide_eq_true hk
  simp only [List.append_nil, Rows.uptoBulkAll, Rows.uptoBulk] at hbk
  have hs : a.size ≤ 1048576 := by rw [Lib.size_eq]; omega
  match bs, hbl with
  | [x, y], _ => exact HQ.others_any a n x y W (HF.env_of hL) hs hb.1 hb.2
theorem reads (os : Os) {H : Type} (enc : TypeId × Value → H) : ∃ places, DataW.whole enc Tryd.prog (HF.w0 os #[.string ⟨#[]⟩, .int .i64 0, .agg #[.int .u8 0, .int .u8 0]]).memory Tryd.f4.params.toList Rows.hashOthersSpec.vars false #[Value.string ⟨#[]⟩, .int .i64 0, .agg #[.int .u8 0, .int .u8 0]].toList 8 = some ([.lit (.string []), .lit (.int .i64 0), .agg [.lit (.int .u8 0), .lit (.int .u8 0)]], [], places) :=
  ⟨[], by kernel_rfl⟩
set_option maxRecDepth 100000 in
theorem lifted (os : Os) (started : os.Started) (H : Type) (enc : TypeId × Value → H) (F : Stop.Interp) :
    ReturnsInHanded {} Tryd.checked os 4 .any ((Rows.OpenSpec.upto Rows.hashOthersSpec).preRow enc Tryd.prog Tryd.f4 Rows.hashOthersUptoRow.domain false Rows.hashOthersUptoRow.laid) (((Rows.OpenSpec.upto Rows.hashOthersSpec).at F).post enc Tryd.prog Tryd.f4 false true false false) := by
  obtain ⟨places, hx⟩ := reads os enc
  refine returnsInHanded_of_row (C := Tryd.checked) (s := Rows.OpenSpec.upto Rows.hashOthersSpec) (laid := HF.laid) HF.own started (by kernel_rfl) Tryd.func4
    (HF.witness (enc := enc) #[.string ⟨#[]⟩, .int .i64 0, .agg #[.int .u8 0, .int .u8 0]] (by kernel_rfl)
      (OpenSpec.preRow_of_cond 8 hx (by kernel_rfl) (fun k hk => by cases hk; kernel_rfl) (by kernel_rfl) (HF.met os _))) ?_
  intro W base args ds gs before hval hW _ hcond _ hL hsh _
  exact contract H enc W base args ds gs before hval hW (hcond _ rfl) hL
theorem said : Rows.HashOthersUptoSaid :=
  OpenClaim.holds_of_cond 4 Tryd.f4 rfl rfl rfl rfl rfl rfl rfl ⟨rfl, rfl, rfl, rfl, rfl⟩ rfl rfl rfl rfl rfl (by kernel_rfl) Tryd.func4 (by kernel_rfl)
    (of_decide_eq_true (by kernel_rfl)) (by unfold Func.isWrapper; first | (rw [if_pos (by decide +kernel)]; kernel_rfl) | (rw [if_neg (by decide +kernel)]; exact ⟨rfl, rfl⟩))
    (fun os started H enc _ F => by rw [OpenClaim.pre_eq_preRow]; exact lifted os started H enc F)
theorem plain (f : FuncId) (fn : Func) (hf : Tryd.pinned.checked.prog.funcNamed "hawser/hawserlaw04.HashOthers" = some f) (hfn : Tryd.pinned.checked.prog.funcs[f]? = some fn) :
    false = Tryd.pinned.checked.prog.looks [] ∧ ∀ (j : Nat) t, fn.params[j]? = some t → Tryd.pinned.checked.prog.wantsStandIn t = false := by
  obtain rfl : f = 4 := Option.some.inj ((show Tryd.prog.funcNamed "hawser/hawserlaw04.HashOthers" = some 4 by kernel_rfl).symm.trans hf) |>.symm
  obtain rfl : fn = Tryd.f4 := (Option.some.inj (Tryd.func4.symm.trans hfn)).symm
  refine ⟨by kernel_rfl, fun j t ht => ?_⟩
  have hall : (Tryd.f4.params.all fun t => !(Tryd.prog.wantsStandIn t)) = true := by kernel_rfl
  have := (Array.all_eq_true_iff_forall_mem.1 hall) t (Array.mem_of_getElem? ht)
  have h2 : Tryd.prog.wantsStandIn t = false := by simpa using this
  exact h2
end OthersCard
theorem hashOthersUpto_card : Rows.HashOthersUptoCardSaid :=
  Claim7.holds_tied_plain_at .later [] _ _ _ _ OthersCard.said (fun _ h => by cases h) (by kernel_rfl) (fun _ h => by cases h) hashOthersUpto_row_tie rfl ⟨rfl, rfl⟩ (by kernel_rfl) rfl OthersCard.plain (by kernel_rfl)
#print axioms hashOthersUpto_card
end Go.Proofs.YtphblgpimphgiaaDoor
