/- Layer 12: the contracts of allTrees, Items, Agree. -/
import Derived.Test.YtmpmmebmhffaeaaGreatDoorQRcRoot
set_option linter.all false
set_option maxRecDepth 100000
set_option maxHeartbeats 25600000
namespace Go.Proofs.YtmpmmebmhffaeaaGreatDoor
open Go.RowKit Go.Lib Go.Maps Go.BigFrame Go.Sort
namespace RC
open OM TP TM TR TG TW NP

/-- A list of nodes handed in. -/
abbrev In (W : World) (ao : Option Addr) (c : Nat) (t : List Nd) : Prop := TW.Wide W ao c t
def all3 (o a b : List Nd) : Bool := treeB o && (treeB a && treeB b)
theorem check_in {W : World} {ao : Option Addr} {c : Nat} {t : List Nd} (he : NF.Env W) (h : In W ao c t) :
    Calls Tryz.prog 20 #[.slice ao t.length c] W fun r w' => r = .returned (.int .i64 (checkG t : Nat)) ∧ Below W.heap.size W w' := h.check he
theorem check_two {t : List Nd} : (checkG t = 0 ∧ treeB t = true) ∨ (checkG t = 60 ∧ treeB t = false) := by
  cases h : treeB t with
  | true => exact .inl ⟨if_pos h, rfl⟩
  | false => exact .inr ⟨if_neg (by rw [h]; simp), rfl⟩
set_option maxRecDepth 100000 in
set_option maxHeartbeats 6400000 in
theorem allTrees_any (xo ta tb : List Nd) (ao aa ab : Option Addr) (co ca cb : Nat) (w : World) (he : NF.Env w) (lo : In w ao co xo) (la : In w aa ca ta) (lb : In w ab cb tb) :
    Calls Tryz.prog 13 #[.slice ao xo.length co, .slice aa ta.length ca, .slice ab tb.length cb] w fun r w' => r = .returned (.bool (all3 xo ta tb)) ∧ Below w.heap.size w w' := by
  have CO : Hid (∀ W, Below w.heap.size w W → Calls Tryz.prog 20 #[.slice ao xo.length co] W fun r w' => r = .returned (.int .i64 (checkG xo : Nat)) ∧ Below W.heap.size W w') := Lib.hid (fun W hW => check_in (he.below hW) (lo.below hW))
  have CA : Hid (∀ W, Below w.heap.size w W → Calls Tryz.prog 20 #[.slice aa ta.length ca] W fun r w' => r = .returned (.int .i64 (checkG ta : Nat)) ∧ Below W.heap.size W w') := Lib.hid (fun W hW => check_in (he.below hW) (la.below hW))
  have CB : Hid (∀ W, Below w.heap.size w W → Calls Tryz.prog 20 #[.slice ab tb.length cb] W fun r w' => r = .returned (.int .i64 (checkG tb : Nat)) ∧ Below W.heap.size W w') := Lib.hid (fun W hW => check_in (he.below hW) (lb.below hW))
  obtain ⟨no, hno⟩ : ∃ n, xo.length = n := ⟨_, rfl⟩
  obtain ⟨na, hna⟩ : ∃ n, ta.length = n := ⟨_, rfl⟩
  obtain ⟨nb, hnb⟩ : ∃ n, tb.length = n := ⟨_, rfl⟩
  rw [hno] at CO ⊢
  rw [hna] at CA ⊢
  rw [hnb] at CB ⊢
  clear he lo la lb hno hna hnb
  unfold all3
  rcases check_two (t := xo) with ⟨e1, e2⟩ | ⟨e1, e2⟩ <;> rw [e1] at CO <;> rw [e2]
  · rcases check_two (t := ta) with ⟨f1, f2⟩ | ⟨f1, f2⟩ <;> rw [f1] at CA <;> rw [f2]
    · rcases check_two (t := tb) with ⟨g1, g2⟩ | ⟨g1, g2⟩ <;> rw [g1] at CB <;> rw [g2]
      all_goals
        clear e1 e2 f1 f2 g1 g2
        go_enter Tryz.func13, Tryz.ntmps13
        repeat (first | go_skip | go_guarded | go_step | go_upon)
        refine (CO.out _ (Below.refl _ _)).mono ?_
        rintro r w1 ⟨rfl, b1⟩
        simp only []
        repeat (first | go_skip | go_guarded | go_step | go_upon)
        refine (CA.out _ b1).mono ?_
        rintro r w2 ⟨rfl, b2⟩
        simp only []
        have B2 := Below.trans b1 (b2.mono b1.size)
        repeat (first | go_skip | go_guarded | go_step | go_upon)
        refine (CB.out _ B2).mono ?_
        rintro r w3 ⟨rfl, b3⟩
        simp only []
        have B3 := Lib.hid (Below.trans B2 (b3.mono B2.size))
        repeat (first | go_skip | go_guarded | go_step | go_upon)
        go_ret
        exact ⟨rfl, B3.out⟩
    · clear e1 e2 f1 f2
      go_enter Tryz.func13, Tryz.ntmps13
      repeat (first | go_skip | go_guarded | go_step | go_upon)
      refine (CO.out _ (Below.refl _ _)).mono ?_
      rintro r w1 ⟨rfl, b1⟩
      simp only []
      repeat (first | go_skip | go_guarded | go_step | go_upon)
      refine (CA.out _ b1).mono ?_
      rintro r w2 ⟨rfl, b2⟩
      simp only []
      have B2 := Lib.hid (Below.trans b1 (b2.mono b1.size))
      repeat (first | go_skip | go_guarded | go_step | go_upon)
      go_ret
      exact ⟨rfl, B2.out⟩
  · clear e1 e2
    go_enter Tryz.func13, Tryz.ntmps13
    repeat (first | go_skip | go_guarded | go_step | go_upon)
    refine (CO.out _ (Below.refl _ _)).mono ?_
    rintro r w1 ⟨rfl, b1⟩
    simp only []
    have B1 := Lib.hid b1
    repeat (first | go_skip | go_guarded | go_step | go_upon)
    go_ret
    exact ⟨rfl, B1.out⟩
def ItemsAns (xo ta tb : List Nd) (w : World) (r : Ending) (w' : World) : Prop :=
  if all3 xo ta tb = true then ∃ u, r = .returned (.tuple #[u, .int .i64 0]) ∧ w'.ownsRow w.heap.size 43 2 u (itemsL [] (valP xo []) (valP ta []) (valP tb [])).length (itC (itemsL [] (valP xo []) (valP ta []) (valP tb []))) ∧ Below w.heap.size w w'
  else r = .returned (.tuple #[.slice none 0 0, .int .i64 60]) ∧ Below w.heap.size w w'
theorem all3_iff {xo ta tb : List Nd} (h : all3 xo ta tb = true) : Tree xo ∧ Tree ta ∧ Tree tb := by
  unfold all3 at h
  rw [Bool.and_eq_true, Bool.and_eq_true] at h
  exact ⟨(tree_iff _).1 h.1, (tree_iff _).1 h.2.1, (tree_iff _).1 h.2.2⟩
set_option maxRecDepth 100000 in
set_option maxHeartbeats 6400000 in
theorem itemsAll_any (xo ta tb : List Nd) (ao aa ab : Option Addr) (co ca cb : Nat) (w : World) (he : NF.Env w) (lo : In w ao co xo) (la : In w aa ca ta) (lb : In w ab cb tb) :
    Calls Tryz.prog 6 #[.slice ao xo.length co, .slice aa ta.length ca, .slice ab tb.length cb] w (ItemsAns xo ta tb w) := by
  have CK := Lib.hid (allTrees_any xo ta tb ao aa ab co ca cb w he lo la lb)
  have HE := Lib.hid he
  obtain ⟨d, hd⟩ : ∃ d, all3 xo ta tb = d := ⟨_, rfl⟩
  unfold ItemsAns
  rw [hd] at CK ⊢
  cases d with
  | false =>
    obtain ⟨no, hno⟩ : ∃ n, xo.length = n := ⟨_, rfl⟩
    obtain ⟨na, hna⟩ : ∃ n, ta.length = n := ⟨_, rfl⟩
    obtain ⟨nb, hnb⟩ : ∃ n, tb.length = n := ⟨_, rfl⟩
    rw [hno, hna, hnb] at CK ⊢
    simp only [Bool.false_eq_true, if_false]
    clear he lo la lb hd hno hna hnb
    go_enter Tryz.func6, Tryz.ntmps6
    repeat (first | go_skip | go_guarded | go_step | go_upon)
    refine CK.out.mono ?_
    rintro r w1 ⟨rfl, b1⟩
    simp only []
    have B1 := Lib.hid b1
    clear b1
    repeat (first | go_skip | go_guarded | go_step | go_upon)
    go_ret2
    exact ⟨rfl, B1.out⟩
  | true =>
    obtain ⟨t1, t2, t3⟩ := all3_iff hd
    simp only [if_true]
    have CR : Hid (∀ W, Below w.heap.size w W → Calls Tryz.prog 14 #[.slice ao xo.length co, .slice aa ta.length ca, .slice ab tb.length cb] W fun r w' => ∃ b1 b2 b3 vo va vb, r = .returned (trV [] b1 b2 b3 vo va vb) ∧ TrAt w' [] (valP xo []) (valP ta []) (valP tb []) b1 b2 b3 vo va vb ∧ Below W.heap.size W w') := Lib.hid (fun W hW => atRoot_any t1 t2 t3 ao aa ab co ca cb W (he.below hW) (lo.lay.below hW) (la.lay.below hW) (lb.lay.below hW) lo.cap la.cap lb.cap)
    have CI := Lib.hid (items_any t1 t2 t3 1002 [] (.inl rfl) (by have := val_len t2 []; omega))
    obtain ⟨no, hno⟩ : ∃ n, xo.length = n := ⟨_, rfl⟩
    obtain ⟨na, hna⟩ : ∃ n, ta.length = n := ⟨_, rfl⟩
    obtain ⟨nb, hnb⟩ : ∃ n, tb.length = n := ⟨_, rfl⟩
    rw [hno, hna, hnb] at CK CR ⊢
    obtain ⟨L, hL⟩ : ∃ L, itemsL [] (valP xo []) (valP ta []) (valP tb []) = L := ⟨_, rfl⟩
    rw [hL] at CI ⊢
    clear he lo la lb hd hno hna hnb hL t1 t2 t3
    go_enter Tryz.func6, Tryz.ntmps6
    repeat (first | go_skip | go_guarded | go_step | go_upon)
    refine CK.out.mono ?_
    rintro r w1 ⟨rfl, b1⟩
    simp only []
    have B1 := Lib.hid b1
    clear b1
    repeat (first | go_skip | go_guarded | go_step | go_upon)
    refine (CR.out _ B1.out).mono ?_
    rintro r w2 ⟨c1, c2, c3, vo, va, vb, rfl, ht, b2⟩
    simp only []
    have B2 := Lib.hid (Below.trans B1.out (b2.mono B1.out.size))
    have C2 := Lib.hid (CI.out c1 c2 c3 vo va vb w2 (HE.out.below B2.out) ht)
    clear b2 ht
    repeat (first | go_skip | go_guarded | go_step | go_upon)
    refine C2.out.mono ?_
    rintro r w3 ⟨u, rfl, ho, b3⟩
    simp only []
    have B3 := Lib.hid (Below.trans B2.out (b3.mono B2.out.size))
    have HO := Lib.hid (owns_base ho _ B2.out.size)
    clear b3 ho
    repeat (first | go_skip | go_guarded | go_step | go_upon)
    go_ret2
    exact ⟨_, rfl, HO.out, B3.out⟩
theorem agreed_root (xo ta tb : List Nd) : agreedL (valP xo []) (valP ta []) (valP tb []) ≠ [] := by
  rw [agreed_step, valP_nil, valP_nil, valP_nil]
  split
  · simp
  · split
    · simp
    · simp
def AgreeAns (xo ta tb : List Nd) (w : World) (r : Ending) (w' : World) : Prop :=
  if all3 xo ta tb = true then ∃ ao c, r = .returned (.tuple #[.slice ao ((agreedL (valP xo []) (valP ta []) (valP tb [])).length - 1) c, .int .i64 0]) ∧ ((ao = none → c = 0) ∧ (agreedL (valP xo []) (valP ta []) (valP tb [])).length - 1 ≤ c) ∧ LayN w' ao ((agreedL (valP xo []) (valP ta []) (valP tb [])).drop 1) ∧ Below w.heap.size w w'
  else r = .returned (.tuple #[.slice none 0 0, .int .i64 60]) ∧ Below w.heap.size w w'
set_option maxRecDepth 100000 in
set_option maxHeartbeats 6400000 in
theorem agreeAll_any (xo ta tb : List Nd) (ao aa ab : Option Addr) (co ca cb : Nat) (w : World) (he : NF.Env w) (lo : In w ao co xo) (la : In w aa ca ta) (lb : In w ab cb tb) :
    Calls Tryz.prog 8 #[.slice ao xo.length co, .slice aa ta.length ca, .slice ab tb.length cb] w (AgreeAns xo ta tb w) := by
  have CK := Lib.hid (allTrees_any xo ta tb ao aa ab co ca cb w he lo la lb)
  have HE := Lib.hid he
  obtain ⟨d, hd⟩ : ∃ d, all3 xo ta tb = d := ⟨_, rfl⟩
  unfold AgreeAns
  rw [hd] at CK ⊢
  cases d with
  | false =>
    obtain ⟨no, hno⟩ : ∃ n, xo.length = n := ⟨_, rfl⟩
    obtain ⟨na, hna⟩ : ∃ n, ta.length = n := ⟨_, rfl⟩
    obtain ⟨nb, hnb⟩ : ∃ n, tb.length = n := ⟨_, rfl⟩
    rw [hno, hna, hnb] at CK ⊢
    simp only [Bool.false_eq_true, if_false]
    clear he lo la lb hd hno hna hnb
    go_enter Tryz.func8, Tryz.ntmps8
    repeat (first | go_skip | go_guarded | go_step | go_upon)
    refine CK.out.mono ?_
    rintro r w1 ⟨rfl, b1⟩
    simp only []
    have B1 := Lib.hid b1
    clear b1
    repeat (first | go_skip | go_guarded | go_step | go_upon)
    go_ret2
    exact ⟨rfl, B1.out⟩
  | true =>
    obtain ⟨t1, t2, t3⟩ := all3_iff hd
    simp only [if_true]
    have CR : Hid (∀ W, Below w.heap.size w W → Calls Tryz.prog 14 #[.slice ao xo.length co, .slice aa ta.length ca, .slice ab tb.length cb] W fun r w' => ∃ b1 b2 b3 vo va vb, r = .returned (trV [] b1 b2 b3 vo va vb) ∧ TrAt w' [] (valP xo []) (valP ta []) (valP tb []) b1 b2 b3 vo va vb ∧ Below W.heap.size W w') := Lib.hid (fun W hW => atRoot_any t1 t2 t3 ao aa ab co ca cb W (he.below hW) (lo.lay.below hW) (la.lay.below hW) (lb.lay.below hW) lo.cap la.cap lb.cap)
    have CI := Lib.hid (agreed_any t1 t2 t3 1002 [] (.inl rfl) (by have := val_len t2 []; omega))
    obtain ⟨no, hno⟩ : ∃ n, xo.length = n := ⟨_, rfl⟩
    obtain ⟨na, hna⟩ : ∃ n, ta.length = n := ⟨_, rfl⟩
    obtain ⟨nb, hnb⟩ : ∃ n, tb.length = n := ⟨_, rfl⟩
    rw [hno, hna, hnb] at CK CR ⊢
    obtain ⟨L, hL⟩ : ∃ L, agreedL (valP xo []) (valP ta []) (valP tb []) = L := ⟨_, rfl⟩
    have hL0 : L ≠ [] := by rw [← hL]; exact agreed_root xo ta tb
    rw [hL] at CI ⊢
    clear he lo la lb hd hno hna hnb hL t1 t2 t3
    go_enter Tryz.func8, Tryz.ntmps8
    repeat (first | go_skip | go_guarded | go_step | go_upon)
    refine CK.out.mono ?_
    rintro r w1 ⟨rfl, b1⟩
    simp only []
    have B1 := Lib.hid b1
    clear b1
    repeat (first | go_skip | go_guarded | go_step | go_upon)
    refine (CR.out _ B1.out).mono ?_
    rintro r w2 ⟨c1, c2, c3, vo, va, vb, rfl, ht, b2⟩
    simp only []
    have B2 := Lib.hid (Below.trans B1.out (b2.mono B1.out.size))
    have C2 := Lib.hid (CI.out c1 c2 c3 vo va vb w2 (HE.out.below B2.out) ht)
    clear b2 ht
    repeat (first | go_skip | go_guarded | go_step | go_upon)
    refine C2.out.mono ?_
    rintro r w3 ⟨y, c, rfl, hz, hl, b3⟩
    simp only []
    have B3 := Lib.hid (Below.trans B2.out (b3.mono B2.out.size))
    have hL1 : 1 ≤ L.length := List.length_pos_iff.2 hL0
    obtain ⟨y2, c2', hrun, hlay, hc2, hz2⟩ := sl_from ndsl_node y L 1 c hL1 hz.2
    have HL2 := Lib.hid (hlay w3 hl)
    have HZ2 := Lib.hid (hz2 hz.1)
    have HC2 := Lib.hid hc2
    have hrun1 : ∀ W, (Instr.slice 22 (.slice y L.length c) (some (.int .i64 1)) none none).run Tryz.prog W = .ok (.slice y2 (L.length - 1) c2') W := hrun
    clear b3 hl hz hlay hz2 hc2 hrun
    repeat (first | go_skip | go_guarded | go_step | go_upon)
    go_ret2
    exact ⟨_, _, rfl, ⟨HZ2.out, HC2.out⟩, HL2.out, B3.out⟩
end RC
end Go.Proofs.YtmpmmebmhffaeaaGreatDoor
