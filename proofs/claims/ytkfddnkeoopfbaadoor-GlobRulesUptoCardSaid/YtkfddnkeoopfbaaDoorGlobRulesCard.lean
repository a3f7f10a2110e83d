/- GlobRules answers true for every list of rules and every path, of bulk at most 1048576; they read behind the call as they read before. Condition: Go's two tables utf8.first and utf8.acceptRanges lie as Go's text lays them (tied to that text). -/
import Derived.Test.YtkfddnkeoopfbaaDoorGlobAwake
import Derived.Test.YtkfddnkeoopfbaaDoorRef2Match
import Derived.Test.YtkfddnkeoopfbaaDoorGlobApp
import Derived.Laws.StructEq
import Derived.Deep.SlicePairs
import Derived.Lib.SmallJoins
import Derived.Test.YtkfddnkeoopfbaaDoorNameFrame
import Derived.Test.YtkfddnkeoopfbaaDoorKit
import Derived.Test.YtkfddnkeoopfbaaDoorCards
import Derived.Test.YtkfddnkeoopfbaaDoorTie
namespace Go.Proofs.YtkfddnkeoopfbaaDoor
open Go.RowKit Go.Lib
namespace GL
open GP GM GH GI GA NF

theorem ru_new (W : World) : (W.alloc (.cells #[] 31)).ownsRow W.heap.size 31 2 (.slice (some ⟨W.heap.size, 0, none⟩) 0 0) 0 [] :=
  World.ownsRow_lit W #[] 0 (Nat.le_refl _) (Nat.zero_le _) rfl
set_option maxRecDepth 100000 in
set_option maxHeartbeats 6400000 in
theorem rules_law (ao : Option Addr) (c : Nat) (rs : List Rl) (q : ByteArray) (w : World) (he : Env w) (hr : RulesAt w ao rs) (h0 : ao = none → rs = [] ∧ c = 0) (hrl : rs.length ≤ 1048576) (hsz : ∀ r ∈ rs, r.2.size ≤ maxLen) (hq : q.size ≤ 1048576) :
    Calls Tryd.prog 4 #[.slice ao rs.length c, .string q] w fun e w' => e = .returned (.bool true) ∧ Below w.heap.size w w' := by
  have cA := awake_any w he
  have He := Lib.hid he
  have HR := Lib.hid hr
  have H0 := Lib.hid h0
  have Hsz := Lib.hid hsz
  clear he hr h0 hsz
  go_enter Tryd.func4, Tryd.ntmps4
  go_wp2_with fail
  refine cA.mono ?_
  rintro e w1 ⟨rfl, hb1⟩
  have Hb1 := Lib.hid hb1
  have hal : Below w1.heap.size w1 (w1.alloc (.cells #[] 31)) := (Below.refl _ _).alloc (Nat.le_refl _) _
  have HR1 := Lib.hid ((HR.out.below hb1).below hal)
  have hbs1 := hb1.size
  clear hb1 cA hal
  go_wp2_with (first | (at_builtin; refine wpList_app _ rfl (.tmp 13) (.tmp 14) rfl w1.heap.size _ [] rfl (ru_new w1) ao c rs rfl HR1.out H0.out (by simp; omega) (by simp) ?_; intro v2 w2 hown2 hgrow2; have Hb2 := Lib.hid (Below.grown ((Hb1.out).alloc hbs1 (.cells #[] 31)) hgrow2 (by simp; omega) (fun k hk => by cases hk; omega)); have Hown2 := Lib.hid hown2; clear hown2 hgrow2))
  have hown2 := Hown2.out
  rw [List.nil_append] at hown2
  obtain ⟨ai, ci, hv2, hRi⟩ := ru_owned hown2
  subst hv2
  have HRi := Lib.hid hRi
  have HRo := Lib.hid (HR.out.below Hb2.out)
  clear hRi hown2 Hown2
  have cI := rules_any ai ci rs w2 (He.out.below Hb2.out) HRi.out hrl Hsz.out
  go_wp2_with fail
  refine cI.mono ?_
  rintro e w3 ⟨rfl, hb3⟩
  have Hb3 := Lib.hid (Hb2.out.trans (hb3.mono Hb2.out.size))
  have HRi3 := Lib.hid (HRi.out.below hb3)
  have HRo3 := Lib.hid (HRo.out.below hb3)
  have cO := rrules_any ao c rs w3 HRo3.out hrl Hsz.out
  clear hb3 cI HRi HRo
  generalize rulesL rs = X at cO ⊢
  go_wp2_with fail
  refine cO.mono ?_
  rintro e w4 ⟨rfl, rfl⟩
  clear cO
  by_cases h8 : 8 < rs.length
  · have h8z : (8 : Int) < rs.length := by omega
    go_wp2_with fail
    go_ret
    exact ⟨rfl, Hb3.out⟩
  · have h8z : ¬ (8 : Int) < rs.length := by omega
    go_wp2_with fail
    go_loopw [39] (fun s39 wr => ∃ k : Nat, k ≤ rs.length ∧ s39 = .int .i64 k ∧ Below w3.heap.size w3 wr) (fun s39 _ => rs.length - (Go.RowKit.intOf s39).toNat)
    case atStart => exact ⟨0, Nat.zero_le _, rfl, Below.refl _ _⟩
    case round =>
      obtain ⟨k, hk, rfl, hb⟩ := hrel
      have Hb := Lib.hid hb
      have HRi5 := Lib.hid (HRi3.out.below hb)
      have HRo5 := Lib.hid (HRo3.out.below hb)
      have HB5 := Lib.hid (Hb3.out.trans (hb.mono Hb3.out.size))
      clear hb
      by_cases hlt : k < rs.length
      · obtain ⟨r, hr⟩ : ∃ r, rs[k]? = some r := ⟨rs[k], List.getElem?_eq_getElem hlt⟩
        obtain ⟨gi, oi, rfl, hgi, hci⟩ := HRi5.out (by omega)
        obtain ⟨go, oo, rfl, hgo, hco⟩ := HRo5.out (by omega)
        obtain ⟨i0, i1⟩ := hci k r hr
        obtain ⟨o0, o1⟩ := hco k r hr
        have hz : (k : Int) < rs.length := by omega
        have hsr : r.2.size ≤ maxLen := Hsz.out r (List.mem_of_getElem? hr)
        unfold maxLen at hsr
        clear hr hci hco
        by_cases h40 : 40 < r.2.size
        · have h40z : (40 : Int) < r.2.size := by omega
          go_wp2_with fail
          go_quiet (fail)
          go_wp2_with fail
          go_quiet (fail)
          go_wp2_with fail
          go_ret
          exact ⟨by simp, RO.below_drewN (RO.below_drewN HB5.out _) _⟩
        · have h40z : ¬ (40 : Int) < r.2.size := by omega
          go_wp2_with fail
          go_quiet (fail)
          go_wp2_with fail
          go_roundw
          case rel => exact ⟨k + 1, by omega, by go_num, RO.below_drewN Hb.out _⟩
          case measure => simp [Go.RowKit.intOf]; omega
      · have hz : ¬ (k : Int) < rs.length := by omega
        have cG := ignored_any ai ci rs q wr (He.out.below HB5.out) HRi5.out (by omega) Hsz.out (by unfold maxLen; omega)
        unfold BoolPost at cG
        have cE := fun W h => GI.rignored_any RG.rmatch_any ao c rs q W h hrl Hsz.out hq
        generalize ignL rs q.data.toList = Y at cG cE
        go_wp2_with fail
        refine cG.mono ?_
        rintro e w6 ⟨rfl, hb6⟩
        have Hb6 := Lib.hid (HB5.out.trans (hb6.mono HB5.out.size))
        have HRo6 := Lib.hid (HRo5.out.below hb6)
        clear hb6 cG
        go_wp2_with fail
        refine (cE w6 HRo6.out).mono ?_
        rintro e w7 ⟨rfl, hb7⟩
        have Hb7 := Lib.hid (Hb6.out.trans (hb7.mono Hb6.out.size))
        clear hb7 cE
        go_wp2_with fail
        go_ret
        exact ⟨by simp, Hb7.out⟩
end GL
end Go.Proofs.YtkfddnkeoopfbaaDoor
namespace Go.Proofs.YtkfddnkeoopfbaaDoor
open Go.ChangeShapes Go.WideShapes Go.ChangeAt Go.RowKit Go.Lib
open Go.ChangeMaps (open_string shut_string)
namespace RulesCard

set_option maxRecDepth 100000 in
theorem contract (H : Type) (enc : TypeId × Value → H) (W : World) (base : Nat) (args : Array Value) (ds gs : List (DataW H)) (before : List MemPlace)
    (hval : ∀ (j : Nat) t v, Tryd.f4.params[j]? = some t → args[j]? = some v → Value.okWide Tryd.prog W .any base t v)
    (hW : DataW.Whole enc Tryd.prog Tryd.f4.params.toList Rows.globRulesSpec.vars false W args.toList ds gs before) (hk : Rows.uptoSmall H (ds ++ gs) = true) (hL : laidMetH Tryd.prog FR.laid W) (hsh : W.ShapedOpen Tryd.prog) :
    Calls Tryd.prog 4 args W fun e W' => ∃ v, e = .returned v ∧ Rows.globRulesSpec.post enc Tryd.prog Tryd.f4 false true false false W args v W' := by
  have hW' := hW
  obtain ⟨p, q, hA0, hV, rfl, hfz, hnd⟩ := hW
  have hA : DataW.TrodAll enc Tryd.prog W 0 (fun _ => true) true Tryd.f4.params.toList args.toList ds p := hA0
  rw [Tryd.params4] at hA hval
  have hlt : ∀ x ∈ p ++ q, x.block < W.heap.size := hW'.lt
  obtain ⟨v0, vs0, d0, ds0, p0, q0, hargs, rfl, rfl, h0, r0⟩ := trodAll_cons hA
  obtain ⟨v1, vs1, d1, ds1, p1, q1, rfl, rfl, rfl, h1, r1⟩ := trodAll_cons r0
  obtain ⟨rfl, rfl, rfl⟩ := trodAll_nil r1
  obtain rfl : args = #[v0, v1] := by cases args; simp_all
  obtain ⟨rfl, rfl⟩ := trodVars_none hV
  refine LK.post_of rfl (by kernel_rfl) (by kernel_rfl) (fun gs h => by subst h; rfl) hW' ?_
  obtain ⟨a, rfl, rfl, rfl, wa⟩ := open_string Tryd.underlying9 (hval 1 9 v1 rfl rfl) h1
  have hb := of_decide_eq_true hk
  simp only [List.append_nil, List.cons_append, List.nil_append, Rows.uptoBulkAll, Rows.uptoBulk] at hb
  have hs : a.size ≤ 1048576 := by rw [Lib.size_eq]; omega
  have he := FR.env_of hL hsh
  obtain ⟨a0, len, cap, rfl⟩ := okWide_slice Tryd.underlying24 (hval 0 24 v0 rfl rfl)
  obtain ⟨fuel, hf⟩ := h0
  rcases Deep.open_slice_pairs Tryd.underlying24 Tryd.underlying31 (by kernel_rfl) rfl rfl (by kernel_rfl) (by kernel_rfl) hf with ⟨hcs, hx⟩ | ⟨ad, len', cap', m, n, V0, V1, D0, D1, P0, P1, hcs, _, hl, hm, hmm, hx, hcell⟩
  · simp [Value.cells] at hcs
    obtain ⟨rfl, rfl, rfl⟩ := hcs
    exact GL.rules_law none 0 [] a W he (fun h => by simp at h) (fun _ => ⟨rfl, rfl⟩) (by simp) (fun r hr => by cases hr) hs
  · simp [Value.cells] at hcs
    obtain ⟨rfl, rfl, rfl⟩ := hcs
    simp only [Prod.mk.injEq] at hx
    obtain ⟨rfl, rfl⟩ := hx
    simp only [Rows.uptoBulk] at hb
    have hlm : len ≤ m := by rw [hmm]; split <;> omega
    have hch : ∀ i, i < m → ∃ r : Bool × ByteArray, W.cell? (ad.add (i * 2)) = some (.bool r.1) ∧ W.cell? (ad.add (i * 2 + 1)) = some (.string r.2) ∧ r.2.size ≤ maxLen := by
      intro i hi
      obtain ⟨c0, c1, t0, t1⟩ := hcell i hi
      obtain ⟨b0, e0, _⟩ := DataW.trod_bool (by exact Tryd.underlying4) t0
      obtain ⟨s0, e1, _, w1⟩ := DataW.trod_string (by exact Tryd.underlying9) t1
      simp only [List.cons.injEq, and_true] at e0 e1
      exact ⟨(b0, s0), by rw [c0, e0], by rw [c1, e1], w1⟩
    obtain ⟨R, hR⟩ := Deep.choose_lt hch
    have hbulk : ∀ (l : List Nat) (f : Nat → List (DataW H)), l.length ≤ Rows.uptoBulkAll (l.map fun i => DataW.agg (f i)) := by
      intro l f
      induction l with
      | nil => simp
      | cons x l ih => simp only [List.map_cons, List.length_cons, Rows.uptoBulkAll, Rows.uptoBulk]; omega
    have hle : len ≤ 1048576 := by
      have := hbulk (List.range len) (fun i => [D0 i, D1 i])
      rw [List.length_range] at this
      omega
    have hrs : ((List.range len).map R).length = len := by simp
    have hmem : ∀ r ∈ (List.range len).map R, r.2.size ≤ maxLen := by
      intro r hr
      obtain ⟨i, hi, rfl⟩ := List.mem_map.1 hr
      exact (hR i (by have := List.mem_range.1 hi; omega)).2.2
    have key := GL.rules_law (some ad) cap ((List.range len).map R) a W he (fun h0 => by
      rw [hrs] at h0
      obtain ⟨b, off, spot⟩ := ad
      have c0 := (hR 0 (by omega)).1
      have hspot : spot = none := by simpa [Addr.add] using World.cell?_spot c0
      subst hspot
      refine ⟨b, off, rfl, hlt (.cell b off) (by simp only [List.append_nil, List.mem_append]; exact .inl (MemPlace.mem_row.2 ⟨0, by omega, by simp⟩)), fun k r hk => ?_⟩
      rw [List.getElem?_map] at hk
      by_cases hkl : k < len
      · rw [List.getElem?_range hkl] at hk
        simp only [Option.map_some, Option.some.injEq] at hk
        subst hk
        obtain ⟨d0, d1, _⟩ := hR k (by omega)
        rw [add_plain] at d0 d1
        exact ⟨d0, d1⟩
      · rw [List.getElem?_eq_none (by simp; omega)] at hk
        cases hk) (fun h => by cases h) (by rw [hrs]; exact hle) hmem hs
    rw [hrs] at key
    exact key

theorem reads (os : Os) {H : Type} (enc : TypeId × Value → H) : ∃ places, DataW.whole enc Tryd.prog (FR.w0 os #[.slice none 0 0, .string ⟨#[]⟩]).memory Tryd.f4.params.toList Rows.globRulesSpec.vars false #[Value.slice none 0 0, .string ⟨#[]⟩].toList 8 = some ([.nil, .lit (.string [])], [], places) :=
  ⟨[], by kernel_rfl⟩
set_option maxRecDepth 100000 in
theorem lifted (os : Os) (started : os.Started) (H : Type) (enc : TypeId × Value → H) (F : Stop.Interp) :
    ReturnsInHanded {} Tryd.checked os 4 .any ((Rows.OpenSpec.upto Rows.globRulesSpec).preRow enc Tryd.prog Tryd.f4 Rows.globRulesUptoRow.domain false Rows.globRulesUptoRow.laid) (((Rows.OpenSpec.upto Rows.globRulesSpec).at F).post enc Tryd.prog Tryd.f4 false true false false) := by
  obtain ⟨places, hx⟩ := reads os enc
  refine returnsInHanded_of_row (C := Tryd.checked) (s := Rows.OpenSpec.upto Rows.globRulesSpec) (laid := FR.laid) FR.own started (by kernel_rfl) Tryd.func4
    (FR.witness (enc := enc) #[.slice none 0 0, .string ⟨#[]⟩] (by kernel_rfl)
      (OpenSpec.preRow_of_cond 8 hx (by kernel_rfl) (fun k hk => by cases hk; kernel_rfl) (by kernel_rfl) (FR.met os _))) ?_
  intro W base args ds gs before hval hW _ hcond _ hL hsh _
  exact contract H enc W base args ds gs before hval hW (hcond _ rfl) hL hsh
theorem said : Rows.GlobRulesUptoSaid :=
  OpenClaim.holds_of_cond 4 Tryd.f4 rfl rfl rfl rfl rfl rfl rfl ⟨rfl, rfl, rfl, rfl, rfl⟩ rfl rfl rfl rfl rfl (by kernel_rfl) Tryd.func4 (by kernel_rfl)
    (of_decide_eq_true (by kernel_rfl)) (by unfold Func.isWrapper; first | (rw [if_pos (by decide +kernel)]; kernel_rfl) | (rw [if_neg (by decide +kernel)]; exact ⟨rfl, rfl⟩))
    (fun os started H enc _ F => by rw [OpenClaim.pre_eq_preRow]; exact lifted os started H enc F)
theorem plain (f : FuncId) (fn : Func) (hf : Tryd.pinned.checked.prog.funcNamed "hawser/hawserlaw02.GlobRules" = some f) (hfn : Tryd.pinned.checked.prog.funcs[f]? = some fn) :
    false = Tryd.pinned.checked.prog.looks [] ∧ ∀ (j : Nat) t, fn.params[j]? = some t → Tryd.pinned.checked.prog.wantsStandIn t = false := by
  obtain rfl : f = 4 := Option.some.inj ((show Tryd.prog.funcNamed "hawser/hawserlaw02.GlobRules" = some 4 by kernel_rfl).symm.trans hf) |>.symm
  obtain rfl : fn = Tryd.f4 := (Option.some.inj (Tryd.func4.symm.trans hfn)).symm
  refine ⟨by kernel_rfl, fun j t ht => ?_⟩
  rw [Tryd.params4] at ht
  have hm : t ∈ [24, 9] := by
    have := Array.mem_of_getElem? ht
    simpa using this
  simp only [List.mem_cons, List.not_mem_nil, or_false] at hm
  rcases hm with rfl | rfl
  · exact (show Tryd.prog.wantsStandIn 24 = false by kernel_rfl)
  · exact (show Tryd.prog.wantsStandIn 9 = false by kernel_rfl)
end RulesCard
theorem globRulesUpto_card : Rows.GlobRulesUptoCardSaid :=
  Claim7.holds_tied_plain_at .later [] _ _ _ _ RulesCard.said (fun _ h => by cases h) (by kernel_rfl) (fun _ h => by cases h) globRulesUpto_row_tie rfl ⟨rfl, rfl⟩ (by kernel_rfl) rfl RulesCard.plain (by kernel_rfl)
#print axioms globRulesUpto_card
end Go.Proofs.YtkfddnkeoopfbaaDoor
