/- CodeOneWay answers true for every text and every list of calls, whatever they are; they read behind the call as they read before. -/
import Derived.Test.YtmcofccmbbjkjaaCodeOne
import Derived.Test.YtmcofccmbbjkjaaCodeFrame
namespace Go.Proofs.Ytmcofccmbbjkjaa
open Go.ChangeShapes Go.WideShapes Go.ChangeAt Go.RowKit Go.Lib
open Go.ChangeMaps (open_string shut_string)
namespace OneCard

set_option maxRecDepth 100000 in
theorem contract (H : Type) (enc : TypeId × Value → H) (W : World) (base : Nat) (args : Array Value) (ds gs : List (DataW H)) (before : List MemPlace)
    (hval : ∀ (j : Nat) t v, Try.f5.params[j]? = some t → args[j]? = some v → Value.okWide Try.prog W .any base t v)
    (hW : DataW.Whole enc Try.prog Try.f5.params.toList Rows.codeOneWaySpec.vars false W args.toList ds gs before) :
    Calls Try.prog 5 args W fun e W' => ∃ v, e = .returned v ∧ Rows.codeOneWaySpec.post enc Try.prog Try.f5 false true false false W args v W' := by
  have hW' := hW
  obtain ⟨p, q, hA0, hV, rfl, hfz, hnd⟩ := hW
  have hA : DataW.TrodAll enc Try.prog W 0 (fun _ => true) true Try.f5.params.toList args.toList ds p := hA0
  rw [Try.params5] at hA hval
  obtain ⟨v0, vs0, d0, ds0, p0, q0, hargs, rfl, rfl, h0, r0⟩ := trodAll_cons hA
  obtain ⟨v1, vs1, d1, ds1, p1, q1, rfl, rfl, rfl, h1, r1⟩ := trodAll_cons r0
  obtain ⟨rfl, rfl, rfl⟩ := trodAll_nil r1
  obtain rfl : args = #[v0, v1] := by cases args; simp_all
  obtain ⟨rfl, rfl⟩ := trodVars_none hV
  refine LK.post_of rfl (by kernel_rfl) (by kernel_rfl) (fun gs h => by subst h; rfl) hW' ?_
  obtain ⟨a, rfl, rfl, rfl, wa⟩ := open_string Try.underlying9 (hval 0 9 v0 rfl rfl) h0
  obtain ⟨a0, len, cap, rfl⟩ := okWide_slice Try.underlying37 (hval 1 37 v1 rfl rfl)
  obtain ⟨fuel, hf⟩ := h1
  rcases CF.open_triples Try.underlying37 Try.underlying39 (by kernel_rfl) rfl rfl rfl (by kernel_rfl) (by kernel_rfl) (by kernel_rfl) hf with hcs | ⟨ad, len', cap', n, D, sp, hcs, hl, hm, hx, hcell⟩
  · simp [Value.cells] at hcs
    obtain ⟨rfl, rfl, rfl⟩ := hcs
    exact CL.oneway_law a none 0 [] W wa (by simp) (fun h => by simp at h)
  · simp [Value.cells] at hcs
    obtain ⟨rfl, rfl, rfl⟩ := hcs
    have hch : ∀ i, i < len → ∃ r : Int × Int × Int, W.cell? (ad.add (i * 3)) = some (.int .i64 r.1) ∧ W.cell? (ad.add (i * 3 + 1)) = some (.int .i64 r.2.1) ∧ W.cell? (ad.add (i * 3 + 2)) = some (.int .i64 r.2.2) := by
      intro i hi
      obtain ⟨u0, u1, u2, y0, y1, y2, c0, c1, c2, t0, t1, t2⟩ := hcell i hi
      obtain ⟨b0, e0, _⟩ := DataW.trod_int (by exact Try.underlying3) t0
      obtain ⟨b1, e1, _⟩ := DataW.trod_int (by exact Try.underlying3) t1
      obtain ⟨b2, e2, _⟩ := DataW.trod_int (by exact Try.underlying3) t2
      simp only [List.cons.injEq, and_true] at e0 e1 e2
      exact ⟨(b0, b1, b2), by rw [c0, e0], by rw [c1, e1], by rw [c2, e2]⟩
    obtain ⟨R, hR⟩ := Deep.choose_lt hch
    have hrs : ((List.range len).map R).length = len := by simp
    have key := CL.oneway_law a (some ad) cap ((List.range len).map R) W wa (by rw [hrs]; omega) (fun h0 => by
      rw [hrs] at h0
      obtain ⟨b, off, spot⟩ := ad
      have c0 := (hR 0 (by omega)).1
      have hspot : spot = none := by simpa [Addr.add] using World.cell?_spot c0
      subst hspot
      refine ⟨b, off, rfl, (World.block_lt_of_cell? _ _ c0 :), fun k r hk => ?_⟩
      rw [List.getElem?_map] at hk
      by_cases hkl : k < len
      · rw [List.getElem?_range hkl] at hk
        simp only [Option.map_some, Option.some.injEq] at hk
        subst hk
        obtain ⟨d0, d1, d2⟩ := hR k (by omega)
        rw [add_plain] at d0 d1 d2
        exact ⟨d0, d1, d2⟩
      · rw [List.getElem?_eq_none (by simp; omega)] at hk
        cases hk)
    rw [hrs] at key
    exact key

theorem reads (os : Os) {H : Type} (enc : TypeId × Value → H) : ∃ places, DataW.whole enc Try.prog (CF.w0 os #[.string ⟨#[]⟩, .slice none 0 0]).memory Try.f5.params.toList Rows.codeOneWaySpec.vars false #[Value.string ⟨#[]⟩, .slice none 0 0].toList 8 = some ([.lit (.string []), .nil], [], places) :=
  ⟨[], by kernel_rfl⟩
set_option maxRecDepth 100000 in
theorem lifted (os : Os) (started : os.Started) (H : Type) (enc : TypeId × Value → H) (F : Stop.Interp) :
    ReturnsInHanded {} Try.checked os 5 .any ((OpenSpec.ofChange Rows.codeOneWaySpec).preRow enc Try.prog Try.f5 Rows.codeOneWayRow.domain false Rows.codeOneWayRow.laid) (((OpenSpec.ofChange Rows.codeOneWaySpec).at F).post enc Try.prog Try.f5 false true false false) := by
  obtain ⟨places, hx⟩ := reads os enc
  refine returnsInHanded_of_row (C := Try.checked) (s := OpenSpec.ofChange Rows.codeOneWaySpec) (laid := CF.laid) CF.own started (by kernel_rfl) Try.func5
    (CF.witness (enc := enc) #[.string ⟨#[]⟩, .slice none 0 0] (by kernel_rfl)
      (OpenSpec.preRow_of_cond 8 hx (by kernel_rfl) (fun k hk => by cases hk) (by kernel_rfl) (CF.met os _))) ?_
  intro W base args ds gs before hval hW _ _ _ hL hsh _
  exact contract H enc W base args ds gs before hval hW
end OneCard
theorem codeOneWay_said : Rows.CodeOneWaySaid :=
  OpenClaim.holds_of_cond 5 Try.f5 rfl rfl rfl rfl rfl rfl rfl ⟨rfl, rfl, rfl, rfl, rfl⟩ rfl rfl rfl rfl rfl (by kernel_rfl) Try.func5 (by kernel_rfl)
    (of_decide_eq_true (by kernel_rfl)) (by unfold Func.isWrapper; first | (rw [if_pos (by decide +kernel)]; kernel_rfl) | (rw [if_neg (by decide +kernel)]; exact ⟨rfl, rfl⟩))
    (fun os started H enc _ F => by rw [OpenClaim.pre_eq_preRow]; exact OneCard.lifted os started H enc F)
#print axioms codeOneWay_said
end Go.Proofs.Ytmcofccmbbjkjaa
