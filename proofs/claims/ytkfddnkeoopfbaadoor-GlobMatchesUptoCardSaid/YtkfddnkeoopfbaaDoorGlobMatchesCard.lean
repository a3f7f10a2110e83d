/- GlobMatches answers true for every pattern and every path, of bulk at most 1048576; they read behind the call as they read before. Condition: Go's two tables utf8.first and utf8.acceptRanges lie as Go's text lays them (tied to that text). -/
import Derived.Test.YtkfddnkeoopfbaaDoorGlobAwake
import Derived.Test.YtkfddnkeoopfbaaDoorRef2Match
import Derived.Test.YtkfddnkeoopfbaaDoorNameFrame
import Derived.Test.YtkfddnkeoopfbaaDoorKit
import Derived.Test.YtkfddnkeoopfbaaDoorCards
import Derived.Test.YtkfddnkeoopfbaaDoorTie
namespace Go.Proofs.YtkfddnkeoopfbaaDoor
open Go.RowKit Go.Lib
namespace GL
open GP GM GH NF

set_option maxRecDepth 100000 in
set_option maxHeartbeats 6400000 in
theorem matches_law (p q : ByteArray) (w : World) (he : Env w) (hp : p.size ≤ 1048576) (hq : q.size ≤ 1048576) :
    Calls Tryd.prog 3 #[.string p, .string q] w fun e w' => e = .returned (.bool true) ∧ Below w.heap.size w w' := by
  have cA := awake_any w he
  have He := Lib.hid he
  clear he
  go_enter Tryd.func3, Tryd.ntmps3
  go_wp2_with fail
  refine cA.mono ?_
  rintro e w1 ⟨rfl, hb1⟩
  have Hb1 := Lib.hid hb1
  have cM := match_any p q w1 (He.out.below hb1) (by unfold maxLen; omega) (by unfold maxLen; omega)
  have cR := fun W => RG.rmatch_any p q W (by unfold maxLen; omega) hq
  generalize matL p.data.toList q.data.toList = X at cM cR
  clear hb1 cA
  go_wp2_with fail
  go_loop [5, 6] (fun s5 s6 => ∃ k n : Nat, k ≤ p.size ∧ s6 = .int .i64 k ∧ s5 = .int .i64 n ∧ n ≤ k) (fun _ s6 => p.size - (Go.RowKit.intOf s6).toNat)
  case atStart => exact ⟨0, 0, Nat.zero_le _, rfl, rfl, Nat.le_refl _⟩
  case round =>
    obtain ⟨k, n, hk, rfl, rfl, hnk⟩ := hrel
    by_cases hlt : k < p.size
    · have hz : (k : Int) < p.size := by omega
      have hn9 : (n : Int) ≤ 1048576 := by omega
      by_cases h42 : p[k] = 42
      · have e42 : ((((p[k]).toNat : Nat) : Int) == 42) = true := by rw [h42]; rfl
        clear h42
        go_wp2_with fail
        go_round
        case rel => exact ⟨k + 1, n + 1, by omega, by go_num, by go_num, by omega⟩
        case measure => simp [Go.RowKit.intOf]; omega
      · have e42 : ((((p[k]).toNat : Nat) : Int) == 42) = false := GR.byte_no h42
        clear h42
        go_wp2_with fail
        go_round
        case rel => exact ⟨k + 1, n, by omega, by go_num, rfl, by omega⟩
        case measure => simp [Go.RowKit.intOf]; omega
    · have hz : ¬ (k : Int) < p.size := by omega
      have fin : ∀ (a b c : Prop), True := fun _ _ _ => trivial
      clear fin
      by_cases h3 : 3 < n
      · have h3z : (3 : Int) < n := by omega
        by_cases h20 : 20 < p.size
        · have h20z : (20 : Int) < p.size := by omega
          go_wp2_with fail
          go_ret
          exact ⟨rfl, Hb1.out⟩
        · have h20z : ¬ (20 : Int) < p.size := by omega
          by_cases h6 : 6 < n
          · have h6z : (6 : Int) < n := by omega
            go_wp2_with fail
            go_ret
            exact ⟨rfl, Hb1.out⟩
          · have h6z : ¬ (6 : Int) < n := by omega
            go_wp2_with fail
            refine cM.mono ?_
            rintro e w2 ⟨rfl, hb2⟩
            have Hb2 := Lib.hid (Hb1.out.trans (hb2.mono Hb1.out.size))
            clear hb2
            go_wp2_with fail
            refine (cR w2).mono ?_
            rintro e w3 ⟨rfl, hb3⟩
            have Hb3 := Lib.hid (Hb2.out.trans (hb3.mono Hb2.out.size))
            clear hb3
            go_wp2_with fail
            go_ret
            exact ⟨by simp, Hb3.out⟩
      · have h3z : ¬ (3 : Int) < n := by omega
        have h6z : ¬ (6 : Int) < n := by omega
        go_wp2_with fail
        refine cM.mono ?_
        rintro e w2 ⟨rfl, hb2⟩
        have Hb2 := Lib.hid (Hb1.out.trans (hb2.mono Hb1.out.size))
        clear hb2
        go_wp2_with fail
        refine (cR w2).mono ?_
        rintro e w3 ⟨rfl, hb3⟩
        have Hb3 := Lib.hid (Hb2.out.trans (hb3.mono Hb2.out.size))
        clear hb3
        go_wp2_with fail
        go_ret
        exact ⟨by simp, Hb3.out⟩
end GL
end Go.Proofs.YtkfddnkeoopfbaaDoor
namespace Go.Proofs.YtkfddnkeoopfbaaDoor
open Go.ChangeShapes Go.WideShapes Go.ChangeAt Go.RowKit Go.Lib
open Go.ChangeMaps (open_string shut_string)
namespace MatchesCard

set_option maxRecDepth 100000 in
theorem contract (H : Type) (enc : TypeId × Value → H) (W : World) (base : Nat) (args : Array Value) (ds gs : List (DataW H)) (before : List MemPlace)
    (hval : ∀ (j : Nat) t v, Tryd.f3.params[j]? = some t → args[j]? = some v → Value.okWide Tryd.prog W .any base t v)
    (hW : DataW.Whole enc Tryd.prog Tryd.f3.params.toList Rows.globMatchesSpec.vars false W args.toList ds gs before) (hk : Rows.uptoSmall H (ds ++ gs) = true) (hL : laidMetH Tryd.prog FR.laid W) (hsh : W.ShapedOpen Tryd.prog) :
    Calls Tryd.prog 3 args W fun e W' => ∃ v, e = .returned v ∧ Rows.globMatchesSpec.post enc Tryd.prog Tryd.f3 false true false false W args v W' := by
  have hW' := hW
  obtain ⟨p, q, hA0, hV, rfl, hfz, hnd⟩ := hW
  have hA : DataW.TrodAll enc Tryd.prog W 0 (fun _ => true) true Tryd.f3.params.toList args.toList ds p := hA0
  rw [Tryd.params3] at hA hval
  obtain ⟨v0, vs0, d0, ds0, p0, q0, hargs, rfl, rfl, h0, r0⟩ := trodAll_cons hA
  obtain ⟨v1, vs1, d1, ds1, p1, q1, rfl, rfl, rfl, h1, r1⟩ := trodAll_cons r0
  obtain ⟨rfl, rfl, rfl⟩ := trodAll_nil r1
  obtain rfl : args = #[v0, v1] := by cases args; simp_all
  obtain ⟨rfl, rfl⟩ := trodVars_none hV
  refine LK.post_of rfl (by kernel_rfl) (by kernel_rfl) (fun gs h => by subst h; rfl) hW' ?_
  obtain ⟨a, rfl, rfl, rfl, wa⟩ := open_string Tryd.underlying9 (hval 0 9 v0 rfl rfl) h0
  obtain ⟨b, rfl, rfl, rfl, wb⟩ := open_string Tryd.underlying9 (hval 1 9 v1 rfl rfl) h1
  have hb := of_decide_eq_true hk
  simp only [List.append_nil, Rows.uptoBulkAll, Rows.uptoBulk] at hb
  have hs : a.size ≤ 1048576 := by rw [Lib.size_eq]; omega
  have ht : b.size ≤ 1048576 := by rw [Lib.size_eq]; omega
  exact GL.matches_law a b W (FR.env_of hL hsh) hs ht

theorem reads (os : Os) {H : Type} (enc : TypeId × Value → H) : ∃ places, DataW.whole enc Tryd.prog (FR.w0 os #[.string ⟨#[]⟩, .string ⟨#[]⟩]).memory Tryd.f3.params.toList Rows.globMatchesSpec.vars false #[Value.string ⟨#[]⟩, .string ⟨#[]⟩].toList 8 = some ([.lit (.string []), .lit (.string [])], [], places) :=
  ⟨[], by kernel_rfl⟩
set_option maxRecDepth 100000 in
theorem lifted (os : Os) (started : os.Started) (H : Type) (enc : TypeId × Value → H) (F : Stop.Interp) :
    ReturnsInHanded {} Tryd.checked os 3 .any ((Rows.OpenSpec.upto Rows.globMatchesSpec).preRow enc Tryd.prog Tryd.f3 Rows.globMatchesUptoRow.domain false Rows.globMatchesUptoRow.laid) (((Rows.OpenSpec.upto Rows.globMatchesSpec).at F).post enc Tryd.prog Tryd.f3 false true false false) := by
  obtain ⟨places, hx⟩ := reads os enc
  refine returnsInHanded_of_row (C := Tryd.checked) (s := Rows.OpenSpec.upto Rows.globMatchesSpec) (laid := FR.laid) FR.own started (by kernel_rfl) Tryd.func3
    (FR.witness (enc := enc) #[.string ⟨#[]⟩, .string ⟨#[]⟩] (by kernel_rfl)
      (OpenSpec.preRow_of_cond 8 hx (by kernel_rfl) (fun k hk => by cases hk; kernel_rfl) (by kernel_rfl) (FR.met os _))) ?_
  intro W base args ds gs before hval hW _ hcond _ hL hsh _
  exact contract H enc W base args ds gs before hval hW (hcond _ rfl) hL hsh
theorem said : Rows.GlobMatchesUptoSaid :=
  OpenClaim.holds_of_cond 3 Tryd.f3 rfl rfl rfl rfl rfl rfl rfl ⟨rfl, rfl, rfl, rfl, rfl⟩ rfl rfl rfl rfl rfl (by kernel_rfl) Tryd.func3 (by kernel_rfl)
    (of_decide_eq_true (by kernel_rfl)) (by unfold Func.isWrapper; first | (rw [if_pos (by decide +kernel)]; kernel_rfl) | (rw [if_neg (by decide +kernel)]; exact ⟨rfl, rfl⟩))
    (fun os started H enc _ F => by rw [OpenClaim.pre_eq_preRow]; exact lifted os started H enc F)
theorem plain (f : FuncId) (fn : Func) (hf : Tryd.pinned.checked.prog.funcNamed "hawser/hawserlaw02.GlobMatches" = some f) (hfn : Tryd.pinned.checked.prog.funcs[f]? = some fn) :
    false = Tryd.pinned.checked.prog.looks [] ∧ ∀ (j : Nat) t, fn.params[j]? = some t → Tryd.pinned.checked.prog.wantsStandIn t = false := by
  obtain rfl : f = 3 := Option.some.inj ((show Tryd.prog.funcNamed "hawser/hawserlaw02.GlobMatches" = some 3 by kernel_rfl).symm.trans hf) |>.symm
  obtain rfl : fn = Tryd.f3 := (Option.some.inj (Tryd.func3.symm.trans hfn)).symm
  refine ⟨by kernel_rfl, fun j t ht => ?_⟩
  rw [Tryd.params3] at ht
  have hm : t ∈ [9] := by
    have := Array.mem_of_getElem? ht
    simpa using this
  obtain rfl : t = 9 := by simpa using hm
  exact (show Tryd.prog.wantsStandIn 9 = false by kernel_rfl)
end MatchesCard
theorem globMatchesUpto_card : Rows.GlobMatchesUptoCardSaid :=
  Claim7.holds_tied_plain_at .later [] _ _ _ _ MatchesCard.said (fun _ h => by cases h) (by kernel_rfl) (fun _ h => by cases h) globMatchesUpto_row_tie rfl ⟨rfl, rfl⟩ (by kernel_rfl) rfl MatchesCard.plain (by kernel_rfl)
#print axioms globMatchesUpto_card
end Go.Proofs.YtkfddnkeoopfbaaDoor
