/- RecTurned answers true for every text, number and byte, whatever they are; they read behind the call as they read before. Condition: the program's table of the check sum lies as its text lays it (tied to that text). -/
import Derived.Test.YtpcbbhbkiiklaaaDoorRecTurned
import Derived.Test.YtpcbbhbkiiklaaaDoorRecFrame
import Derived.Test.YtpcbbhbkiiklaaaDoorKit
import Derived.Test.YtpcbbhbkiiklaaaDoorCards
import Derived.Test.YtpcbbhbkiiklaaaDoorTie
namespace Go.Proofs.YtpcbbhbkiiklaaaDoor
open Go.ChangeShapes Go.WideShapes Go.ChangeAt Go.RowKit Go.Lib
open Go.ChangeMaps (open_string shut_string)
namespace RecTurnedCard


set_option maxRecDepth 100000 in
theorem contract (H : Type) (enc : TypeId × Value → H) (W : World) (base : Nat) (args : Array Value) (ds gs : List (DataW H)) (before : List MemPlace)
    (hval : ∀ (j : Nat) t v, Tryd.f6.params[j]? = some t → args[j]? = some v → Value.okWide Tryd.prog W .any base t v)
    (hW : DataW.Whole enc Tryd.prog Tryd.f6.params.toList Rows.recTurnedSpec.vars false W args.toList ds gs before) (hL : laidMetH Tryd.prog HF.laid W) :
    Calls Tryd.prog 6 args W fun e W' => ∃ v, e = .returned v ∧ Rows.recTurnedSpec.post enc Tryd.prog Tryd.f6 false true false false W args v W' := by
  have hW' := hW
  obtain ⟨p, q, hA0, hV, rfl, hfz, hnd⟩ := hW
  have hA : DataW.TrodAll enc Tryd.prog W 0 (fun _ => true) true Tryd.f6.params.toList args.toList ds p := hA0
  rw [Tryd.params6] at hA hval
  obtain ⟨v0, vs0, d0, ds0, p0, q0, hargs, rfl, rfl, h0, r0⟩ := trodAll_cons hA
  obtain ⟨v1, vs1, d1, ds1, p1, q1, rfl, rfl, rfl, h1, r1⟩ := trodAll_cons r0
  obtain ⟨v2, vs2, d2, ds2, p2, q2, rfl, rfl, rfl, h2, r2⟩ := trodAll_cons r1
  obtain ⟨rfl, rfl, rfl⟩ := trodAll_nil r2
  obtain rfl : args = #[v0, v1, v2] := by cases args; simp_all
  obtain ⟨rfl, rfl⟩ := trodVars_none hV
  refine LK.post_of rfl (by kernel_rfl) (by kernel_rfl) (fun gs h => by subst h; rfl) hW' ?_
  obtain ⟨s, rfl, rfl, rfl, ws⟩ := open_string Tryd.underlying9 (hval 0 9 v0 rfl rfl) h0
  obtain ⟨n, rfl, rfl, rfl, wn⟩ := open_int Tryd.underlying3 (hval 1 3 v1 rfl rfl) h1
  obtain ⟨y, rfl, rfl, rfl, wy⟩ := open_int Tryd.underlying5 (hval 2 5 v2 rfl rfl) h2
  have hb := bounds_i64 wn
  have hy := bounds_u8 wy
  have e : Value.string s = RQ.txt s.data.toList := by unfold RQ.txt; rw [← RQ.bytes_is s]
  have ey : y = (((UInt8.ofNat y.toNat).toNat : Nat) : Int) := by
    have : (UInt8.ofNat y.toNat).toNat = y.toNat := by simp; omega
    rw [this]
    omega
  rw [e, ey]
  exact RF.turned_any s.data.toList n (UInt8.ofNat y.toNat) W (HF.env_of hL) (by rw [← Lib.size_eq]; exact ws) hb.1 hb.2
theorem reads (os : Os) {H : Type} (enc : TypeId × Value → H) : ∃ places, DataW.whole enc Tryd.prog (HF.w0 os #[.string ⟨#[]⟩, .int .i64 0, .int .u8 0]).memory Tryd.f6.params.toList Rows.recTurnedSpec.vars false #[Value.string ⟨#[]⟩, .int .i64 0, .int .u8 0].toList 8 = some ([.lit (.string []), .lit (.int .i64 0), .lit (.int .u8 0)], [], places) :=
  ⟨[], by kernel_rfl⟩
set_option maxRecDepth 100000 in
theorem lifted (os : Os) (started : os.Started) (H : Type) (enc : TypeId × Value → H) (F : Stop.Interp) :
    ReturnsInHanded {} Tryd.checked os 6 .any ((OpenSpec.ofChange Rows.recTurnedSpec).preRow enc Tryd.prog Tryd.f6 Rows.recTurnedRow.domain false Rows.recTurnedRow.laid) (((OpenSpec.ofChange Rows.recTurnedSpec).at F).post enc Tryd.prog Tryd.f6 false true false false) := by
  obtain ⟨places, hx⟩ := reads os enc
  refine returnsInHanded_of_row (C := Tryd.checked) (s := OpenSpec.ofChange Rows.recTurnedSpec) (laid := HF.laid) HF.own started (by kernel_rfl) Tryd.func6
    (HF.witness (enc := enc) #[.string ⟨#[]⟩, .int .i64 0, .int .u8 0] (by kernel_rfl)
      (OpenSpec.preRow_of_cond 8 hx (by kernel_rfl) (fun k hk => by cases hk) (by kernel_rfl) (HF.met os _))) ?_
  intro W base args ds gs before hval hW _ _ _ hL hsh _
  exact contract H enc W base args ds gs before hval hW hL
theorem said : Rows.RecTurnedSaid :=
  OpenClaim.holds_of_cond 6 Tryd.f6 rfl rfl rfl rfl rfl rfl rfl ⟨rfl, rfl, rfl, rfl, rfl⟩ rfl rfl rfl rfl rfl (by kernel_rfl) Tryd.func6 (by kernel_rfl)
    (of_decide_eq_true (by kernel_rfl)) (by unfold Func.isWrapper; first | (rw [if_pos (by decide +kernel)]; kernel_rfl) | (rw [if_neg (by decide +kernel)]; exact ⟨rfl, rfl⟩))
    (fun os started H enc _ F => by rw [OpenClaim.pre_eq_preRow]; exact lifted os started H enc F)
theorem plain (f : FuncId) (fn : Func) (hf : Tryd.pinned.checked.prog.funcNamed "hawser/hawserlaw05.RecTurned" = some f) (hfn : Tryd.pinned.checked.prog.funcs[f]? = some fn) :
    false = Tryd.pinned.checked.prog.looks [] ∧ ∀ (j : Nat) t, fn.params[j]? = some t → Tryd.pinned.checked.prog.wantsStandIn t = false := by
  obtain rfl : f = 6 := Option.some.inj ((show Tryd.prog.funcNamed "hawser/hawserlaw05.RecTurned" = some 6 by kernel_rfl).symm.trans hf) |>.symm
  obtain rfl : fn = Tryd.f6 := (Option.some.inj (Tryd.func6.symm.trans hfn)).symm
  refine ⟨by kernel_rfl, fun j t ht => ?_⟩
  have hall : (Tryd.f6.params.all fun t => !(Tryd.prog.wantsStandIn t)) = true := by kernel_rfl
  have := (Array.all_eq_true_iff_forall_mem.1 hall) t (Array.mem_of_getElem? ht)
  have h2 : Tryd.prog.wantsStandIn t = false := by simpa using this
  exact h2
end RecTurnedCard
theorem recTurned_card : Rows.RecTurnedCardSaid :=
  Claim7.holds_tied_plain_at .later [] _ _ _ _ RecTurnedCard.said (fun _ h => by cases h) (by kernel_rfl) (fun _ h => by cases h) recTurned_row_tie rfl ⟨rfl, rfl⟩ (by kernel_rfl) rfl RecTurnedCard.plain (by kernel_rfl)
#print axioms recTurned_card
end Go.Proofs.YtpcbbhbkiiklaaaDoor
