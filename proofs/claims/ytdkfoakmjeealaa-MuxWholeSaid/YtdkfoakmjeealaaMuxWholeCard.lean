/- MuxWhole answers true for every list of texts, every window and size and every list of picks; they read behind the call as they read before. Condition: none. -/
import Derived.Test.YtdkfoakmjeealaaQMxWh
import Derived.Test.YtdkfoakmjeealaaQMxArg
import Derived.Test.YtdkfoakmjeealaaQCodeFrame
import Derived.Test.YtdkfoakmjeealaaQKit
set_option linter.all false
namespace Go.Proofs.Ytdkfoakmjeealaa
open Go.ChangeShapes Go.WideShapes Go.ChangeAt Go.RowKit Go.Lib
open Go.ChangeMaps (open_string shut_string)
namespace MuxWholeCard


set_option maxRecDepth 100000 in
theorem contract (H : Type) (enc : TypeId × Value → H) (W : World) (base : Nat) (args : Array Value) (ds gs : List (DataW H)) (before : List MemPlace)
    (hval : ∀ (j : Nat) t v, Try.f5.params[j]? = some t → args[j]? = some v → Value.okWide Try.prog W .any base t v)
    (hW : DataW.Whole enc Try.prog Try.f5.params.toList Rows.muxWholeSpec.vars false W args.toList ds gs before) (_hL : laidMetH Try.prog CF.laid W) (_hsh : W.ShapedOpen Try.prog) :
    Calls Try.prog 5 args W fun e W' => ∃ v, e = .returned v ∧ Rows.muxWholeSpec.post enc Try.prog Try.f5 false true false false W args v W' := by
  have hW' := hW
  obtain ⟨p, q, hA0, hV, rfl, hfz, hnd⟩ := hW
  have hA : DataW.TrodAll enc Try.prog W 0 (fun _ => true) true Try.f5.params.toList args.toList ds p := hA0
  rw [Try.params5] at hA hval
  obtain ⟨v0, vs0, d0, ds0, p0, q0, hargs, rfl, rfl, h0, r0⟩ := trodAll_cons hA
  obtain ⟨v1, vs1, d1, ds1, p1, q1, rfl, rfl, rfl, h1, r1⟩ := trodAll_cons r0
  obtain ⟨v2, vs2, d2, ds2, p2, q2, rfl, rfl, rfl, h2, r2⟩ := trodAll_cons r1
  obtain ⟨rfl, rfl, rfl⟩ := trodAll_nil r2
  obtain rfl : args = #[v0, v1, v2] := by cases args; simp_all
  obtain ⟨rfl, rfl⟩ := trodVars_none hV
  refine LK.post_of rfl (by kernel_rfl) (by kernel_rfl) (fun gs h => by subst h; rfl) hW' ?_
  obtain ⟨a0, n0, c0, rfl⟩ := okWide_slice Try.underlying64 (hval 0 64 v0 rfl rfl)
  obtain ⟨f0, hf0⟩ := h0
  obtain ⟨ls, e0, L0, m0, k0⟩ := MX.texts_arg hf0
  obtain ⟨zw, zs, rfl, b1, b2, b3, b4⟩ := MX.size_arg (hval 1 66 v1 rfl rfl) h1
  obtain ⟨a2, n2, c2, rfl⟩ := okWide_slice Try.underlying43 (hval 2 43 v2 rfl rfl)
  obtain ⟨f2, hf2⟩ := h2
  obtain ⟨pk, e2, L2, m2, k2⟩ := MX.ints_arg hf2
  subst e0 e2
  exact MX.whole_any a0 c0 ls zw zs a2 c2 pk W L0 L2 b1 b2 b3 b4 m2 (fun t ht => by have := m0 t ht; unfold maxLen at this; omega) k0 k2
theorem reads (os : Os) {H : Type} (enc : TypeId × Value → H) : ∃ places, DataW.whole enc Try.prog (CF.w0 os #[.slice none 0 0, .agg #[.int .i64 0, .int .i64 0], .slice none 0 0]).memory Try.f5.params.toList Rows.muxWholeSpec.vars false #[Value.slice none 0 0, .agg #[.int .i64 0, .int .i64 0], .slice none 0 0].toList 8 = some ([.nil, .agg [.lit (.int .i64 0), .lit (.int .i64 0)], .nil], [], places) :=
  ⟨[], by kernel_rfl⟩
set_option maxRecDepth 100000 in
theorem lifted (os : Os) (started : os.Started) (H : Type) (enc : TypeId × Value → H) (F : Stop.Interp) :
    ReturnsInHanded {} Try.checked os 5 .any ((OpenSpec.ofChange Rows.muxWholeSpec).preRow enc Try.prog Try.f5 Rows.muxWholeRow.domain false Rows.muxWholeRow.laid) (((OpenSpec.ofChange Rows.muxWholeSpec).at F).post enc Try.prog Try.f5 false true false false) := by
  obtain ⟨places, hx⟩ := reads os enc
  refine returnsInHanded_of_row (C := Try.checked) (s := OpenSpec.ofChange Rows.muxWholeSpec) (laid := CF.laid) CF.own started (by kernel_rfl) Try.func5
    (CF.witness (enc := enc) #[.slice none 0 0, .agg #[.int .i64 0, .int .i64 0], .slice none 0 0] (by kernel_rfl)
      (OpenSpec.preRow_of_cond 8 hx (by kernel_rfl) (fun k hk => by cases hk) (by kernel_rfl) (CF.met os _))) ?_
  intro W base args ds gs before hval hW _ _ _ hL hsh _
  exact contract H enc W base args ds gs before hval hW hL hsh
theorem said : Rows.MuxWholeSaid :=
  OpenClaim.holds_of_cond 5 Try.f5 rfl rfl rfl rfl rfl rfl rfl ⟨rfl, rfl, rfl, rfl, rfl⟩ rfl rfl rfl rfl rfl (by kernel_rfl) Try.func5 (by kernel_rfl)
    (of_decide_eq_true (by kernel_rfl)) (by unfold Func.isWrapper; first | (rw [if_pos (by decide +kernel)]; kernel_rfl) | (rw [if_neg (by decide +kernel)]; exact ⟨rfl, rfl⟩))
    (fun os started H enc _ F => by rw [OpenClaim.pre_eq_preRow]; exact lifted os started H enc F)
end MuxWholeCard
theorem muxWhole_said : Rows.MuxWholeSaid := MuxWholeCard.said
#print axioms muxWhole_said
end Go.Proofs.Ytdkfoakmjeealaa
