/- GlobBelow answers true for every list of rules, every path and every next, of bulk at most 1048576; they read behind the call as they read before. Condition: Go's two tables utf8.first and utf8.acceptRanges lie as Go's text lays them (tied to that text). -/
import Derived.Test.YtdnncacplnfllaaDoorGlobBelow
import Derived.Deep.SlicePairs
import Derived.Lib.SmallJoins
import Derived.Test.YtdnncacplnfllaaDoorNameFrame
import Derived.Test.YtdnncacplnfllaaDoorKit
import Derived.Test.YtdnncacplnfllaaDoorCards
import Derived.Test.YtdnncacplnfllaaDoorTie
namespace Go.Proofs.YtdnncacplnfllaaDoor
open Go.ChangeShapes Go.WideShapes Go.ChangeAt Go.RowKit Go.Lib
open Go.ChangeMaps (open_string shut_string)
namespace BelowCard

set_option maxRecDepth 100000 in
theorem contract (H : Type) (enc : TypeId × Value → H) (W : World) (base : Nat) (args : Array Value) (ds gs : List (DataW H)) (before : List MemPlace)
    (hval : ∀ (j : Nat) t v, Tryd.f7.params[j]? = some t → args[j]? = some v → Value.okWide Tryd.prog W .any base t v)
    (hW : DataW.Whole enc Tryd.prog Tryd.f7.params.toList Rows.globBelowSpec.vars false W args.toList ds gs before) (hk : Rows.uptoSmall H (ds ++ gs) = true) (hL : laidMetH Tryd.prog FR.laid W) (hsh : W.ShapedOpen Tryd.prog) :
    Calls Tryd.prog 7 args W fun e W' => ∃ v, e = .returned v ∧ Rows.globBelowSpec.post enc Tryd.prog Tryd.f7 false true false false W args v W' := by
  have hW' := hW
  obtain ⟨p, q, hA0, hV, rfl, hfz, hnd⟩ := hW
  have hA : DataW.TrodAll enc Tryd.prog W 0 (fun _ => true) true Tryd.f7.params.toList args.toList ds p := hA0
  rw [Tryd.params7] at hA hval
  have hlt : ∀ x ∈ p ++ q, x.block < W.heap.size := hW'.lt
  obtain ⟨v0, vs0, d0, ds0, p0, q0, hargs, rfl, rfl, h0, r0⟩ := trodAll_cons hA
  obtain ⟨v1, vs1, d1, ds1, p1, q1, rfl, rfl, rfl, h1, r1⟩ := trodAll_cons r0
  obtain ⟨v2, vs2, d2, ds2, p2, q2, rfl, rfl, rfl, h2, r2⟩ := trodAll_cons r1
  obtain ⟨rfl, rfl, rfl⟩ := trodAll_nil r2
  obtain rfl : args = #[v0, v1, v2] := by cases args; simp_all
  obtain ⟨rfl, rfl⟩ := trodVars_none hV
  refine LK.post_of rfl (by kernel_rfl) (by kernel_rfl) (fun gs h => by subst h; rfl) hW' ?_
  obtain ⟨a, rfl, rfl, rfl, wa⟩ := open_string Tryd.underlying9 (hval 1 9 v1 rfl rfl) h1
  obtain ⟨cs, rfl, hcz⟩ := okWide_struct Tryd.underlying38 (hval 2 38 v2 rfl rfl)
  obtain ⟨c0, c1, c2, rfl⟩ := Joins.array3 (hcz.trans (by kernel_rfl))
  obtain ⟨fuel2, hf2⟩ := h2
  obtain ⟨y0, y1, n2, hx2, _, g0, g1⟩ := trod_struct2 Tryd.underlying38 hf2
  have k0 : Tryd.prog.cellsOf 9 = 1 := by kernel_rfl
  have k1 : Tryd.prog.cellsOf 35 = 2 := by kernel_rfl
  simp only [Prod.mk.injEq] at hx2
  obtain ⟨rfl, rfl⟩ := hx2
  simp [Value.cells, k0, k1] at g0 g1
  obtain ⟨nm, hm2, rfl, wn⟩ := DataW.trod_string (by exact Tryd.underlying9) g0
  obtain ⟨z0, z1, n3, rfl, _, g2, g3⟩ := trod_struct2 Tryd.underlying35 g1
  have k2 : Tryd.prog.cellsOf 4 = 1 := by kernel_rfl
  simp [k0, k2] at g2 g3
  obtain ⟨mb, hm0, rfl⟩ := DataW.trod_bool (by exact Tryd.underlying4) g2
  obtain ⟨ms, hm1, rfl, wm⟩ := DataW.trod_string (by exact Tryd.underlying9) g3
  simp only [List.cons.injEq, and_true] at hm0 hm1 hm2
  subst hm0 hm1 hm2
  have hb := of_decide_eq_true hk
  simp only [List.append_nil, List.cons_append, List.nil_append, Rows.uptoBulkAll, Rows.uptoBulk] at hb
  have hs : a.size + 1 + nm.size ≤ 1048576 := by rw [Lib.size_eq, Lib.size_eq]; omega
  have he := FR.env_of hL hsh
  obtain ⟨a0, len, cap, rfl⟩ := okWide_slice Tryd.underlying31 (hval 0 31 v0 rfl rfl)
  obtain ⟨fuel, hf⟩ := h0
  rcases Deep.open_slice_pairs Tryd.underlying31 Tryd.underlying35 (by kernel_rfl) rfl rfl (by kernel_rfl) (by kernel_rfl) hf with ⟨hcs, hx⟩ | ⟨ad, len', cap', m, n, V0, V1, D0, D1, P0, P1, hcs, _, hl, hm, hmm, hx, hcell⟩
  · simp [Value.cells] at hcs
    obtain ⟨rfl, rfl, rfl⟩ := hcs
    exact GL.below_law none 0 [] a nm (mb, ms) W he (fun h => by cases h) (fun _ => ⟨rfl, rfl⟩) (by simp) (fun r hr => by cases hr) hs wm
  · simp [Value.cells] at hcs
    obtain ⟨rfl, rfl, rfl⟩ := hcs
    simp only [Prod.mk.injEq] at hx
    obtain ⟨rfl, rfl⟩ := hx
    simp only [Rows.uptoBulk] at hb
    have hlm : len ≤ m := by rw [hmm]; split <;> omega
    have hch : ∀ i, i < m → ∃ r : Bool × ByteArray, W.cell? (ad.add (i * 2)) = some (.bool r.1) ∧ W.cell? (ad.add (i * 2 + 1)) = some (.string r.2) ∧ r.2.size ≤ maxLen := by
      intro i hi
      obtain ⟨c0, c1, t0, t1⟩ := hcell i hi
      obtain ⟨b0, e0, _⟩ := DataW.trod_bool (by exact Tryd.underlying4) t0
      obtain ⟨s0, e1, _, w1⟩ := DataW.trod_string (by exact Tryd.underlying9) t1
      simp only [List.cons.injEq, and_true] at e0 e1
      exact ⟨(b0, s0), by rw [c0, e0], by rw [c1, e1], w1⟩
    obtain ⟨R, hR⟩ := Deep.choose_lt hch
    have hbulk : ∀ (l : List Nat) (f : Nat → List (DataW H)), l.length ≤ Rows.uptoBulkAll (l.map fun i => DataW.agg (f i)) := by
      intro l f
      induction l with
      | nil => simp
      | cons x l ih => simp only [List.map_cons, List.length_cons, Rows.uptoBulkAll, Rows.uptoBulk]; omega
    have hle : len ≤ 1048576 := by
      have := hbulk (List.range len) (fun i => [D0 i, D1 i])
      rw [List.length_range] at this
      omega
    have hrs : ((List.range len).map R).length = len := by simp
    have hmem : ∀ r ∈ (List.range len).map R, r.2.size ≤ maxLen := by
      intro r hr
      obtain ⟨i, hi, rfl⟩ := List.mem_map.1 hr
      exact (hR i (by have := List.mem_range.1 hi; omega)).2.2
    have key := GL.below_law (some ad) cap ((List.range len).map R) a nm (mb, ms) W he (fun h0 => by
      rw [hrs] at h0
      obtain ⟨b, off, spot⟩ := ad
      have c0 := (hR 0 (by omega)).1
      have hspot : spot = none := by simpa [Addr.add] using World.cell?_spot c0
      subst hspot
      refine ⟨b, off, rfl, hlt (.cell b off) (by simp only [List.append_nil, List.mem_append]; exact .inl (MemPlace.mem_row.2 ⟨0, by omega, by simp⟩)), fun k r hk => ?_⟩
      rw [List.getElem?_map] at hk
      by_cases hkl : k < len
      · rw [List.getElem?_range hkl] at hk
        simp only [Option.map_some, Option.some.injEq] at hk
        subst hk
        obtain ⟨d0, d1, _⟩ := hR k (by omega)
        rw [add_plain] at d0 d1
        exact ⟨d0, d1⟩
      · rw [List.getElem?_eq_none (by simp; omega)] at hk
        cases hk) (fun h => by cases h) (by rw [hrs]; exact hle) hmem hs wm
    rw [hrs] at key
    exact key

theorem reads (os : Os) {H : Type} (enc : TypeId × Value → H) : ∃ places, DataW.whole enc Tryd.prog (FR.w0 os #[.slice none 0 0, .string ⟨#[]⟩, .agg #[.string ⟨#[]⟩, .bool false, .string ⟨#[]⟩]]).memory Tryd.f7.params.toList Rows.globBelowSpec.vars false #[Value.slice none 0 0, .string ⟨#[]⟩, .agg #[.string ⟨#[]⟩, .bool false, .string ⟨#[]⟩]].toList 8 = some ([.nil, .lit (.string []), .agg [.lit (.string []), .agg [.lit (.bool false), .lit (.string [])]]], [], places) :=
  ⟨[], by kernel_rfl⟩
set_option maxRecDepth 100000 in
theorem lifted (os : Os) (started : os.Started) (H : Type) (enc : TypeId × Value → H) (F : Stop.Interp) :
    ReturnsInHanded {} Tryd.checked os 7 .any ((Rows.OpenSpec.upto Rows.globBelowSpec).preRow enc Tryd.prog Tryd.f7 Rows.globBelowUptoRow.domain false Rows.globBelowUptoRow.laid) (((Rows.OpenSpec.upto Rows.globBelowSpec).at F).post enc Tryd.prog Tryd.f7 false true false false) := by
  obtain ⟨places, hx⟩ := reads os enc
  refine returnsInHanded_of_row (C := Tryd.checked) (s := Rows.OpenSpec.upto Rows.globBelowSpec) (laid := FR.laid) FR.own started (by kernel_rfl) Tryd.func7
    (FR.witness (enc := enc) #[.slice none 0 0, .string ⟨#[]⟩, .agg #[.string ⟨#[]⟩, .bool false, .string ⟨#[]⟩]] (by kernel_rfl)
      (OpenSpec.preRow_of_cond 8 hx (by kernel_rfl) (fun k hk => by cases hk; kernel_rfl) (by kernel_rfl) (FR.met os _))) ?_
  intro W base args ds gs before hval hW _ hcond _ hL hsh _
  exact contract H enc W base args ds gs before hval hW (hcond _ rfl) hL hsh
theorem said : Rows.GlobBelowUptoSaid :=
  OpenClaim.holds_of_cond 7 Tryd.f7 rfl rfl rfl rfl rfl rfl rfl ⟨rfl, rfl, rfl, rfl, rfl⟩ rfl rfl rfl rfl rfl (by kernel_rfl) Tryd.func7 (by kernel_rfl)
    (of_decide_eq_true (by kernel_rfl)) (by unfold Func.isWrapper; first | (rw [if_pos (by decide +kernel)]; kernel_rfl) | (rw [if_neg (by decide +kernel)]; exact ⟨rfl, rfl⟩))
    (fun os started H enc _ F => by rw [OpenClaim.pre_eq_preRow]; exact lifted os started H enc F)
theorem plain (f : FuncId) (fn : Func) (hf : Tryd.pinned.checked.prog.funcNamed "hawser/hawserlaw02.GlobBelow" = some f) (hfn : Tryd.pinned.checked.prog.funcs[f]? = some fn) :
    false = Tryd.pinned.checked.prog.looks [] ∧ ∀ (j : Nat) t, fn.params[j]? = some t → Tryd.pinned.checked.prog.wantsStandIn t = false := by
  obtain rfl : f = 7 := Option.some.inj ((show Tryd.prog.funcNamed "hawser/hawserlaw02.GlobBelow" = some 7 by kernel_rfl).symm.trans hf) |>.symm
  obtain rfl : fn = Tryd.f7 := (Option.some.inj (Tryd.func7.symm.trans hfn)).symm
  refine ⟨by kernel_rfl, fun j t ht => ?_⟩
  rw [Tryd.params7] at ht
  have hm : t ∈ [31, 9, 38] := by
    have := Array.mem_of_getElem? ht
    simpa using this
  simp only [List.mem_cons, List.not_mem_nil, or_false] at hm
  rcases hm with rfl | rfl | rfl
  · exact (show Tryd.prog.wantsStandIn 31 = false by kernel_rfl)
  · exact (show Tryd.prog.wantsStandIn 9 = false by kernel_rfl)
  · exact (show Tryd.prog.wantsStandIn 38 = false by kernel_rfl)
end BelowCard
theorem globBelowUpto_card : Rows.GlobBelowUptoCardSaid :=
  Claim7.holds_tied_plain_at .later [] _ _ _ _ BelowCard.said (fun _ h => by cases h) (by kernel_rfl) (fun _ h => by cases h) globBelowUpto_row_tie rfl ⟨rfl, rfl⟩ (by kernel_rfl) rfl BelowCard.plain (by kernel_rfl)
#print axioms globBelowUpto_card
end Go.Proofs.YtdnncacplnfllaaDoor
