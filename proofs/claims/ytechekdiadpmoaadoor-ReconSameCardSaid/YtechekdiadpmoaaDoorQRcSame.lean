/- Layer 12: the walk of ReconSame. -/
import Derived.Test.YtechekdiadpmoaaDoorQRcAw
set_option linter.all false
set_option maxRecDepth 100000
set_option maxHeartbeats 25600000
namespace Go.Proofs.YtechekdiadpmoaaDoor
open Go.RowKit Go.Lib Go.Maps Go.BigFrame Go.Sort
namespace RC
open OM TP TM TR TG TW NP

/-- What Items answers, in short: its list's length and its error. -/
def Len (n : Nat) (k : Int) (W : World) (r : Ending) (w' : World) : Prop := ∃ ao c, r = .returned (.tuple #[.slice ao n c, .int .i64 k]) ∧ Below W.heap.size W w'
theorem items_len_any {xo ta tb : List Nd} {ao aa ab : Option Addr} {co ca cb : Nat} {W : World} (he : NF.Env W) (lo : In W ao co xo) (la : In W aa ca ta) (lb : In W ab cb tb) {n : Nat} {k : Int}
    (h : (all3 xo ta tb = false ∧ n = 0 ∧ k = 60) ∨ (all3 xo ta tb = true ∧ (itemsL [] (valP xo []) (valP ta []) (valP tb [])).length = n ∧ k = 0)) :
    Calls Tryd.prog 11 #[.slice ao xo.length co, .slice aa ta.length ca, .slice ab tb.length cb] W (Len n k W) := by
  refine (itemsAll_any xo ta tb ao aa ab co ca cb W he lo la lb).mono ?_
  intro r w1 hr
  unfold ItemsAns at hr
  rcases h with ⟨h1, rfl, rfl⟩ | ⟨h1, rfl, rfl⟩
  · rw [h1] at hr
    obtain ⟨rfl, hb⟩ := hr
    exact ⟨_, _, rfl, hb⟩
  · rw [h1, if_pos rfl] at hr
    obtain ⟨u, rfl, ho, hb⟩ := hr
    obtain ⟨a1, c1, rfl, _⟩ := owns_view ho
    exact ⟨_, _, rfl, hb⟩
theorem agree_tree_any {xo ta tb : List Nd} {ao aa ab : Option Addr} {co ca cb : Nat} {W : World} (he : NF.Env W) (lo : In W ao co xo) (la : In W aa ca ta) (lb : In W ab cb tb) {t : List Nd} (h1 : all3 xo ta tb = true) (h : agreedL (valP xo []) (valP ta []) (valP tb []) = root :: t) :
    Calls Tryd.prog 12 #[.slice ao xo.length co, .slice aa ta.length ca, .slice ab tb.length cb] W fun r w' => ∃ a c, r = .returned (.tuple #[.slice a t.length c, .int .i64 0]) ∧ LayN w' a t ∧ Below W.heap.size W w' := by
  refine (agreeAll_any xo ta tb ao aa ab co ca cb W he lo la lb).mono ?_
  intro r w1 hr
  unfold AgreeAns at hr
  rw [h1, if_pos rfl, h] at hr
  obtain ⟨a, c, rfl, _, hl, hb⟩ := hr
  exact ⟨a, c, rfl, hl, hb⟩
theorem agree_no_any {xo ta tb : List Nd} {ao aa ab : Option Addr} {co ca cb : Nat} {W : World} (he : NF.Env W) (lo : In W ao co xo) (la : In W aa ca ta) (lb : In W ab cb tb) (h1 : all3 xo ta tb = false) :
    Calls Tryd.prog 12 #[.slice ao xo.length co, .slice aa ta.length ca, .slice ab tb.length cb] W (Len 0 60 W) := by
  refine (agreeAll_any xo ta tb ao aa ab co ca cb W he lo la lb).mono ?_
  intro r w1 hr
  unfold AgreeAns at hr
  rw [h1] at hr
  obtain ⟨rfl, hb⟩ := hr
  exact ⟨_, _, rfl, hb⟩
set_option maxRecDepth 100000 in
set_option maxHeartbeats 6400000 in
theorem same_law (ao : Option Addr) (ca : Nat) (os : List Nd) (bo : Option Addr) (cb : Nat) (ts : List Nd) (w : World) (he : NF.Env w) (ho : In w ao ca os) (ht : In w bo cb ts) :
    Calls Tryd.prog 4 #[.slice ao os.length ca, .slice bo ts.length cb] w fun r w' => r = .returned (.bool true) ∧ Below w.heap.size w w' := by
  have CW := Lib.hid (awake_any w he)
  cases h1 : treeB ts with
  | false =>
    have a1 : all3 ts ts ts = false := by unfold all3; rw [h1]; rfl
    have a2 : all3 os ts ts = false := by unfold all3; rw [h1]; cases treeB os <;> rfl
    have CI : Hid (∀ W, Below w.heap.size w W → Calls Tryd.prog 11 #[.slice bo ts.length cb, .slice bo ts.length cb, .slice bo ts.length cb] W (Len 0 60 W)) := Lib.hid (fun W hW => items_len_any (he.below hW) (ht.below hW) (ht.below hW) (ht.below hW) (.inl ⟨a1, rfl, rfl⟩))
    have CA : Hid (∀ W, Below w.heap.size w W → Calls Tryd.prog 12 #[.slice ao os.length ca, .slice bo ts.length cb, .slice bo ts.length cb] W (Len 0 60 W)) := Lib.hid (fun W hW => agree_no_any (he.below hW) (ho.below hW) (ht.below hW) (ht.below hW) a2)
    have CJ : Hid (∀ W, Below w.heap.size w W → Calls Tryd.prog 11 #[.slice ao os.length ca, .slice bo ts.length cb, .slice bo ts.length cb] W (Len 0 60 W)) := Lib.hid (fun W hW => items_len_any (he.below hW) (ho.below hW) (ht.below hW) (ht.below hW) (.inl ⟨a2, rfl, rfl⟩))
    obtain ⟨n, hn⟩ : ∃ n, os.length = n := ⟨_, rfl⟩
    obtain ⟨m, hm⟩ : ∃ n, ts.length = n := ⟨_, rfl⟩
    rw [hm] at CI
    rw [hn, hm] at CA CJ ⊢
    clear hn hm he ho ht h1 a1 a2
    go_enter Tryd.func4, Tryd.ntmps4
    repeat (first | go_skip | go_guarded | go_step | go_upon)
    refine CW.out.mono ?_
    rintro r w1 ⟨rfl, hb⟩
    simp only []
    have B1 := Lib.hid hb
    clear hb
    repeat (first | go_skip | go_guarded | go_step | go_upon)
    refine (CI.out _ B1.out).mono ?_
    rintro r w2 ⟨a2, c2, rfl, hb⟩
    simp only []
    have B2 := Lib.hid (B1.out.trans (hb.mono B1.out.size))
    clear hb
    repeat (first | go_skip | go_guarded | go_step | go_upon)
    refine (CA.out _ B2.out).mono ?_
    rintro r w3 ⟨a3, c3, rfl, hb⟩
    simp only []
    have B3 := Lib.hid (B2.out.trans (hb.mono B2.out.size))
    clear hb
    repeat (first | go_skip | go_guarded | go_step | go_upon)
    refine (CJ.out _ B3.out).mono ?_
    rintro r w4 ⟨a4, c4, rfl, hb⟩
    simp only []
    have B4 := Lib.hid (B3.out.trans (hb.mono B3.out.size))
    clear hb
    repeat (first | go_skip | go_guarded | go_step | go_upon)
    go_ret
    exact ⟨by first | rfl | simp, B4.out⟩
  | true =>
    have a1 : all3 ts ts ts = true := by unfold all3; rw [h1]; rfl
    have CI : Hid (∀ W, Below w.heap.size w W → Calls Tryd.prog 11 #[.slice bo ts.length cb, .slice bo ts.length cb, .slice bo ts.length cb] W (Len 0 0 W)) := Lib.hid (fun W hW => items_len_any (he.below hW) (ht.below hW) (ht.below hW) (ht.below hW) (.inr ⟨a1, by rw [items_self, if_pos rfl]; rfl, rfl⟩))
    cases h2 : treeB os with
    | false =>
      have a2 : all3 os ts ts = false := by unfold all3; rw [h2]; rfl
      have CA : Hid (∀ W, Below w.heap.size w W → Calls Tryd.prog 12 #[.slice ao os.length ca, .slice bo ts.length cb, .slice bo ts.length cb] W (Len 0 60 W)) := Lib.hid (fun W hW => agree_no_any (he.below hW) (ho.below hW) (ht.below hW) (ht.below hW) a2)
      have CJ : Hid (∀ W, Below w.heap.size w W → Calls Tryd.prog 11 #[.slice ao os.length ca, .slice bo ts.length cb, .slice bo ts.length cb] W (Len 0 60 W)) := Lib.hid (fun W hW => items_len_any (he.below hW) (ho.below hW) (ht.below hW) (ht.below hW) (.inl ⟨a2, rfl, rfl⟩))
      obtain ⟨n, hn⟩ : ∃ n, os.length = n := ⟨_, rfl⟩
      obtain ⟨m, hm⟩ : ∃ n, ts.length = n := ⟨_, rfl⟩
      rw [hm] at CI
      rw [hn, hm] at CA CJ ⊢
      clear hn hm he ho ht h1 h2 a1 a2
      go_enter Tryd.func4, Tryd.ntmps4
      repeat (first | go_skip | go_guarded | go_step | go_upon)
      refine CW.out.mono ?_
      rintro r w1 ⟨rfl, hb⟩
      simp only []
      have B1 := Lib.hid hb
      clear hb
      repeat (first | go_skip | go_guarded | go_step | go_upon)
      refine (CI.out _ B1.out).mono ?_
      rintro r w2 ⟨a2, c2, rfl, hb⟩
      simp only []
      have B2 := Lib.hid (B1.out.trans (hb.mono B1.out.size))
      clear hb
      repeat (first | go_skip | go_guarded | go_step | go_upon)
      refine (CA.out _ B2.out).mono ?_
      rintro r w3 ⟨a3, c3, rfl, hb⟩
      simp only []
      have B3 := Lib.hid (B2.out.trans (hb.mono B2.out.size))
      clear hb
      repeat (first | go_skip | go_guarded | go_step | go_upon)
      refine (CJ.out _ B3.out).mono ?_
      rintro r w4 ⟨a4, c4, rfl, hb⟩
      simp only []
      have B4 := Lib.hid (B3.out.trans (hb.mono B3.out.size))
      clear hb
      repeat (first | go_skip | go_guarded | go_step | go_upon)
      go_ret
      exact ⟨by first | rfl | simp, B4.out⟩
    | true =>
      have a2 : all3 os ts ts = true := by unfold all3; rw [h1, h2]; rfl
      have CA : Hid (∀ W, Below w.heap.size w W → Calls Tryd.prog 12 #[.slice ao os.length ca, .slice bo ts.length cb, .slice bo ts.length cb] W fun r w' => ∃ a c, r = .returned (.tuple #[.slice a ts.length c, .int .i64 0]) ∧ LayN w' a ts ∧ Below W.heap.size W w') := Lib.hid (fun W hW => agree_tree_any (he.below hW) (ho.below hW) (ht.below hW) (ht.below hW) a2 (by rw [agreed_self, valP_nil]))
      have CS : Hid (∀ W a c, Below w.heap.size w W → LayN W a ts → Calls Tryd.prog 14 #[.slice a ts.length c, .slice bo ts.length cb] W fun r w' => r = .returned (.bool true) ∧ Below W.heap.size W w') := Lib.hid (fun W a c hW hl => by
        have := same_any a bo c cb ts ts W hl (ht.lay.below hW) ht.max ht.max
        rw [decide_eq_true rfl] at this
        exact this)
      have CT : Hid (∀ W, Below w.heap.size w W → Calls Tryd.prog 14 #[.slice ao os.length ca, .slice bo ts.length cb] W fun r w' => r = .returned (.bool (decide (os = ts))) ∧ Below W.heap.size W w') := Lib.hid (fun W hW => same_any ao bo ca cb os ts W (ho.lay.below hW) (ht.lay.below hW) ho.max ht.max)
      have hv : (valP os [] = valP ts []) = (os = ts) := by rw [valP_nil, valP_nil]; simp
      have CJ : Hid (∀ W, Below w.heap.size w W → Calls Tryd.prog 11 #[.slice ao os.length ca, .slice bo ts.length cb, .slice bo ts.length cb] W (Len (if os = ts then 0 else 1) 0 W)) := Lib.hid (fun W hW => items_len_any (he.below hW) (ho.below hW) (ht.below hW) (ht.below hW) (.inr ⟨a2, by rw [items_self]; simp only [hv]; split <;> rfl, rfl⟩))
      by_cases h3 : os = ts
      · rw [if_pos h3] at CJ
        rw [decide_eq_true h3] at CT
        obtain ⟨n, hn⟩ : ∃ n, os.length = n := ⟨_, rfl⟩
        obtain ⟨m, hm⟩ : ∃ n, ts.length = n := ⟨_, rfl⟩
        rw [hm] at CI CS
        rw [hn, hm] at CA CJ CT ⊢
        clear hn hm he ho ht h1 h2 a1 a2 hv h3
        go_enter Tryd.func4, Tryd.ntmps4
        repeat (first | go_skip | go_guarded | go_step | go_upon)
        refine CW.out.mono ?_
        rintro r w1 ⟨rfl, hb⟩
        simp only []
        have B1 := Lib.hid hb
        clear hb
        repeat (first | go_skip | go_guarded | go_step | go_upon)
        refine (CI.out _ B1.out).mono ?_
        rintro r w2 ⟨a2, c2, rfl, hb⟩
        simp only []
        have B2 := Lib.hid (B1.out.trans (hb.mono B1.out.size))
        clear hb
        repeat (first | go_skip | go_guarded | go_step | go_upon)
        refine (CA.out _ B2.out).mono ?_
        rintro r w3 ⟨a3, c3, rfl, hl3, hb⟩
        simp only []
        have B3 := Lib.hid (B2.out.trans (hb.mono B2.out.size))
        have HL3 := Lib.hid hl3
        clear hb hl3
        repeat (first | go_skip | go_guarded | go_step | go_upon)
        refine (CJ.out _ B3.out).mono ?_
        rintro r w4 ⟨a4, c4, rfl, hb⟩
        simp only []
        have B4 := Lib.hid (B3.out.trans (hb.mono B3.out.size))
        have HL4 := Lib.hid (HL3.out.below hb)
        clear hb
        repeat (first | go_skip | go_guarded | go_step | go_upon)
        refine (CS.out _ _ _ B4.out HL4.out).mono ?_
        rintro r w5 ⟨rfl, hb⟩
        simp only []
        have B5 := Lib.hid (B4.out.trans (hb.mono B4.out.size))
        clear hb
        repeat (first | go_skip | go_guarded | go_step | go_upon)
        refine (CT.out _ B5.out).mono ?_
        rintro r w6 ⟨rfl, hb⟩
        simp only []
        have B6 := Lib.hid (B5.out.trans (hb.mono B5.out.size))
        clear hb
        repeat (first | go_skip | go_guarded | go_step | go_upon)
        go_ret
        exact ⟨by first | rfl | simp, B6.out⟩
      · rw [if_neg h3] at CJ
        rw [decide_eq_false h3] at CT
        obtain ⟨n, hn⟩ : ∃ n, os.length = n := ⟨_, rfl⟩
        obtain ⟨m, hm⟩ : ∃ n, ts.length = n := ⟨_, rfl⟩
        rw [hm] at CI CS
        rw [hn, hm] at CA CJ CT ⊢
        clear hn hm he ho ht h1 h2 a1 a2 hv h3
        go_enter Tryd.func4, Tryd.ntmps4
        repeat (first | go_skip | go_guarded | go_step | go_upon)
        refine CW.out.mono ?_
        rintro r w1 ⟨rfl, hb⟩
        simp only []
        have B1 := Lib.hid hb
        clear hb
        repeat (first | go_skip | go_guarded | go_step | go_upon)
        refine (CI.out _ B1.out).mono ?_
        rintro r w2 ⟨a2, c2, rfl, hb⟩
        simp only []
        have B2 := Lib.hid (B1.out.trans (hb.mono B1.out.size))
        clear hb
        repeat (first | go_skip | go_guarded | go_step | go_upon)
        refine (CA.out _ B2.out).mono ?_
        rintro r w3 ⟨a3, c3, rfl, hl3, hb⟩
        simp only []
        have B3 := Lib.hid (B2.out.trans (hb.mono B2.out.size))
        have HL3 := Lib.hid hl3
        clear hb hl3
        repeat (first | go_skip | go_guarded | go_step | go_upon)
        refine (CJ.out _ B3.out).mono ?_
        rintro r w4 ⟨a4, c4, rfl, hb⟩
        simp only []
        have B4 := Lib.hid (B3.out.trans (hb.mono B3.out.size))
        have HL4 := Lib.hid (HL3.out.below hb)
        clear hb
        repeat (first | go_skip | go_guarded | go_step | go_upon)
        refine (CS.out _ _ _ B4.out HL4.out).mono ?_
        rintro r w5 ⟨rfl, hb⟩
        simp only []
        have B5 := Lib.hid (B4.out.trans (hb.mono B4.out.size))
        clear hb
        repeat (first | go_skip | go_guarded | go_step | go_upon)
        refine (CT.out _ B5.out).mono ?_
        rintro r w6 ⟨rfl, hb⟩
        simp only []
        have B6 := Lib.hid (B5.out.trans (hb.mono B5.out.size))
        clear hb
        repeat (first | go_skip | go_guarded | go_step | go_upon)
        go_ret
        exact ⟨by first | rfl | simp, B6.out⟩
end RC
end Go.Proofs.YtechekdiadpmoaaDoor
