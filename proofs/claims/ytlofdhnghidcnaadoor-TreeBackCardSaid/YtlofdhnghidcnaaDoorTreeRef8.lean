/- Layer 6: the contract of the document's Differ. -/
import Derived.Test.YtlofdhnghidcnaaDoorTreeRefC
namespace Go.Proofs.YtlofdhnghidcnaaDoor
open Go.RowKit Go.Lib Go.BigFrame
namespace TP
open NP
theorem diff_left (a : List Nd) : diffM a [] = a.map (·.path) := by
  cases a with
  | nil => rw [diffM]
  | cons x a => rw [diffM]
theorem diff_right (b : List Nd) : diffM [] b = b.map (·.path) := by rw [diffM]
theorem diff_len : ∀ (a b : List Nd), (diffM a b).length ≤ a.length + b.length
  | [], b => by rw [diff_right, List.length_map]; simp
  | x :: a, [] => by rw [diff_left, List.length_map]; simp
  | x :: a, y :: b => by
    rw [diffM]
    split
    · have := diff_len a (y :: b)
      simp only [List.length_cons] at this ⊢; omega
    · split
      · have := diff_len (x :: a) b
        simp only [List.length_cons] at this ⊢; omega
      · split
        · have := diff_len a b
          simp only [List.length_cons] at this ⊢; omega
        · have := diff_len a b
          simp only [List.length_cons] at this ⊢; omega
  termination_by a b => a.length + b.length
theorem drop_at {l : List Nd} {k : Nat} {x : Nd} (h : l[k]? = some x) : l.drop k = x :: l.drop (k + 1) := by
  have hk := (List.getElem?_eq_some_iff.1 h).1
  rw [List.drop_eq_getElem_cons hk, (List.getElem?_eq_some_iff.1 h).2]
end TP
namespace TR
open OM TP TM

/-- What Differ answers, wherever the paths lie. -/
def DiffPost (a b : List Nd) (w : World) (r : Ending) (w' : World) : Prop :=
  ∃ v, r = .returned v ∧ w'.ownsRow w.heap.size 9 1 v (differL a b).length ((differL a b).map txt) ∧ Below w.heap.size w w'
theorem DiffPost.nil {a b : List Nd} {w w' : World} (h : differL a b = []) (hb : Below w.heap.size w w') : DiffPost a b w (.returned (.slice none 0 0)) w' :=
  ⟨_, rfl, by rw [h]; exact World.ownsRow_nil _ _ _ _, hb⟩
theorem differ_bad {a b : List Nd} (h : treeB a = false ∨ treeB b = false) : differL a b = [] := by
  unfold differL
  rw [if_neg]
  rintro ⟨h1, h2⟩
  rcases h with h | h
  · rw [h] at h1; cases h1
  · rw [h] at h2; cases h2
theorem tree_no {ts : List Nd} (h : ¬ ((checkE ts : Nat) : Int) = 0) : treeB ts = false := by
  cases ht : treeB ts with
  | false => rfl
  | true => exact absurd ((checkE_zero ts).2 ht) h
/-- The loop's state: what is told, and what is left. -/
def RDiff (xs ys : List Nd) (w : World) (s5 s6 s7 : Value) (wr : World) : Prop :=
  ∃ (k l : Nat) (done : List (List UInt8)), s6 = .int .i64 k ∧ s7 = .int .i64 l ∧ k ≤ xs.length ∧ l ≤ ys.length ∧ diffM xs ys = done ++ diffM (xs.drop k) (ys.drop l) ∧
    wr.ownsRow w.heap.size 9 1 s5 done.length (done.map txt) ∧ Below w.heap.size w wr
set_option maxRecDepth 100000 in
set_option maxHeartbeats 6400000 in
theorem rdiffer_any (ao bo : Option Addr) (ca cb : Nat) (xs ys : List Nd) (w : World) (ha : LayN w ao xs) (hb : LayN w bo ys) (sa : Small xs) (sb : Small ys) (la : xs.length ≤ maxLen) (lb : ys.length ≤ maxLen) :
    Calls Tryd.prog 17 #[.slice ao xs.length ca, .slice bo ys.length cb] w (DiffPost xs ys w) := by
  obtain ⟨i0, hi, hz0, hz1, hz2⟩ := info_parts infoS
  have c1 := fun W (hW : LayN W ao xs) => rcheck_any ao ca xs W hW sa la
  have c2 := fun W (hW : LayN W bo ys) => rcheck_any bo cb ys W hW sb lb
  obtain ⟨n, hn⟩ : ∃ n, xs.length = n := ⟨_, rfl⟩
  obtain ⟨m, hm⟩ : ∃ m, ys.length = m := ⟨_, rfl⟩
  have HN := Lib.hid hn
  have HM := Lib.hid hm
  have HA := Lib.hid ha
  have HB := Lib.hid hb
  have SA := Lib.hid sa
  have SB := Lib.hid sb
  obtain ⟨E, hE⟩ : ∃ E : Nat, checkE xs = E := ⟨_, rfl⟩
  obtain ⟨F, hF⟩ : ∃ F : Nat, checkE ys = F := ⟨_, rfl⟩
  have hE0 := tree_no (ts := xs)
  have hF0 := tree_no (ts := ys)
  have hE1 := checkE_zero xs
  have hF1 := checkE_zero ys
  unfold maxLen at la lb
  rw [hn] at la c1 ⊢
  rw [hm] at lb c2 ⊢
  rw [hE] at c1 hE0 hE1
  rw [hF] at c2 hF0 hF1
  have hnz : (n : Int) ≤ 9223372036854775807 := by omega
  have hmz : (m : Int) ≤ 9223372036854775807 := by omega
  have C1 := Lib.hid c1
  have C2 := Lib.hid c2
  by_cases e1 : (E : Int) = 0
  · have eb1 : ((E : Int) != 0) = false := by simp [e1]
    by_cases e2 : (F : Int) = 0
    · have eb2 : ((F : Int) != 0) = false := by simp [e2]
      have t1 := hE1.1 e1
      have t2 := hF1.1 e2
      have n1000 : n ≤ 1000 := by have := ((tree_iff xs).1 t1).len; omega
      have m1000 : m ≤ 1000 := by have := ((tree_iff ys).1 t2).len; omega
      have HD : Hid (differL xs ys = diffM xs ys) := Lib.hid (by unfold differL; rw [if_pos ⟨t1, t2⟩])
      have HDl : Hid ((diffM xs ys).length ≤ 2000) := Lib.hid (by have := diff_len xs ys; omega)
      clear c1 c2 hn hm ha hb sa sb hE hF hE0 hF0 hE1 hF1 la lb e1 e2 t1 t2
      go_enter Tryd.func17, Tryd.ntmps17
      repeat (first | (go_at_call_of 28 (Value.slice ao n ca); refine (C1.out _ HA.out).mono ?_; rintro r w1 ⟨rfl, hb⟩; simp only []; have B1 := Lib.hid hb; clear hb) | (go_at_call_of 28 (Value.slice bo m cb); refine (C2.out _ (HB.out.below B1.out)).mono ?_; rintro r w2 ⟨rfl, hb⟩; simp only []; have B2 := Lib.hid (Below.trans B1.out (hb.mono B1.out.size)); clear hb) | go_skip | go_guarded | go_step | go_upon)
      go_loopw [5, 6, 7] (RDiff xs ys w) (fun _ s6 s7 _ => n + m - (Go.RowKit.intOf s6).toNat - (Go.RowKit.intOf s7).toNat)
      case atStart => exact ⟨0, 0, [], rfl, rfl, Nat.zero_le _, Nat.zero_le _, rfl, World.ownsRow_nil _ _ _ _, B2.out⟩
      case round =>
        obtain ⟨k, l, done, rfl, rfl, hk, hl, hd, ho, hb⟩ := hrel
        rw [HN.out] at hk
        rw [HM.out] at hl
        have HO := Lib.hid ho
        have HBw := Lib.hid hb
        have hbs := hb.size
        have HDn := Lib.hid hd
        have HAr := Lib.hid (HA.out.below hb)
        have HBr := Lib.hid (HB.out.below hb)
        have HKl : Hid (done.length ≤ 2000) := Lib.hid (by have := HDl.out; rw [hd, List.length_append] at this; omega)
        clear ho hb hd
        by_cases hlk : k < n
        · have kz : (k : Int) < n := by omega
          have kd : decide (k < n) = true := decide_eq_true hlk
          have kb : ((k : Int) == (n : Int)) = false := by simp; omega
          have kb2 : (k == n) = false := by simp; omega
          have kb3 : decide (k = n) = false := decide_eq_false (by omega)
          obtain ⟨g1, o1, rfl, hg1, hc1⟩ := HAr.out (by rw [HN.out]; omega)
          obtain ⟨x, hx⟩ : ∃ x, xs[k]? = some x := ⟨xs[k]'(by rw [HN.out]; exact hlk), List.getElem?_eq_getElem _⟩
          obtain ⟨X, hX⟩ : ∃ X : ByteArray, txt x.path = .string X := ⟨_, rfl⟩
          have HNx := Lib.hid (hc1 k x hx)
          have hXd : X.data.toList = x.path := by unfold txt at hX; injection hX with hX; rw [← hX]
          have hXs : X.size ≤ 1048576 := by rw [Lib.size_eq, hXd]; exact (SA.out x (List.mem_of_getElem? hx)).1
          have CX : Hid (∀ W, Below wr.heap.size wr W → W.cell? ⟨g1, o1 + k * 4, none⟩ = some (.string X)) := Lib.hid (fun W hW => by rw [← hX]; exact (HNx.out.below hg1 hW).p)
          by_cases hlm : l < m
          · have lz : (l : Int) < m := by omega
            have ld : decide (l < m) = true := decide_eq_true hlm
            have lb : ((l : Int) == (m : Int)) = false := by simp; omega
            have lb2 : (l == m) = false := by simp; omega
            have lb3 : decide (l = m) = false := decide_eq_false (by omega)
            obtain ⟨g2, o2, rfl, hg2, hc2⟩ := HBr.out (by rw [HM.out]; omega)
            obtain ⟨y, hy⟩ : ∃ y, ys[l]? = some y := ⟨ys[l]'(by rw [HM.out]; exact hlm), List.getElem?_eq_getElem _⟩
            obtain ⟨Y, hY⟩ : ∃ Y : ByteArray, txt y.path = .string Y := ⟨_, rfl⟩
            have HNy := Lib.hid (hc2 l y hy)
            have hYd : Y.data.toList = y.path := by unfold txt at hY; injection hY with hY; rw [← hY]
            have hYs : Y.size ≤ 1048576 := by rw [Lib.size_eq, hYd]; exact (SB.out y (List.mem_of_getElem? hy)).1
            have CY : Hid (∀ W, Below wr.heap.size wr W → W.cell? ⟨g2, o2 + l * 4, none⟩ = some (.string Y)) := Lib.hid (fun W hW => by rw [← hY]; exact (HNy.out.below hg2 hW).p)
            obtain ⟨z, hz⟩ : ∃ z, NP.ordL x.path y.path = z := ⟨_, rfl⟩
            have CO : Hid (∀ W, Calls Tryd.prog 33 #[.string X, .string Y] W fun r w' => r = .returned (.int .i64 z) ∧ Below W.heap.size W w') := Lib.hid (fun W => by
              refine (R1.RO.rorder_any X Y W hXs hYs).mono ?_
              rintro r w' ⟨rfl, hb⟩
              rw [hXd, hYd, hz]
              exact ⟨rfl, hb⟩)
            have HXt := Lib.hid hX
            have HYt := Lib.hid hY
            have HDx : Hid (diffM (xs.drop k) (ys.drop l) = if z < 0 then x.path :: diffM (xs.drop (k + 1)) (ys.drop l) else if 0 < z then y.path :: diffM (xs.drop k) (ys.drop (l + 1)) else if x = y then diffM (xs.drop (k + 1)) (ys.drop (l + 1)) else x.path :: diffM (xs.drop (k + 1)) (ys.drop (l + 1))) := Lib.hid (by
              have hsw := NP.ordL_swap x.path y.path
              rw [drop_at hx, drop_at hy, diffM, hz]
              by_cases h1 : z < 0
              · rw [if_pos h1, if_pos h1]
              · rw [if_neg h1, if_neg h1]
                by_cases h2 : 0 < z
                · rw [if_pos h2, if_pos (by omega)]
                · rw [if_neg h2, if_neg (by omega)])
            have f0 := cell_regrown (CX.out wr (Below.refl _ _))
            have f1 := cell_regrown (CY.out wr (Below.refl _ _))
            have DO := Lib.hid (reg_of (w := wr) (fun W _ => CO.out W))
            clear hXd hXs hYd hYs hz hc1 hc2 hX hY hx hy
            by_cases zneg : z < 0
            · have HD2 : Hid (diffM xs ys = (done ++ [x.path]) ++ diffM (xs.drop (k + 1)) (ys.drop l)) := Lib.hid (by rw [HDn.out, HDx.out, if_pos zneg]; simp)
              repeat (first | go_skip | go_guarded | go_step | go_upon)
              with_reducible refine wp_region_quiet_below (by kernel_rfl) (by kernel_rfl) ?_
              repeat (go_big_quiet_step (first | (go_at_call 33; exact DO.out _ _)))
              refine wpQuiet_nil ?_
              intro _ hw'
              obtain ⟨⟨dq, osq⟩, hw''⟩ := hw'
              subst hw''
              have W3 : Hid (Below wr.heap.size wr (Go.Sort.grow (redrawn wr dq) osq)) := Lib.hid (Below.trans (Below.refl wr.heap.size wr) ((below_regrown wr dq osq).mono ((Below.refl wr.heap.size wr)).size))
              clear f0 f1 DO
              generalize Go.Sort.grow (redrawn wr dq) osq = w3 at W3 ⊢
              have e0 := CX.out _ W3.out
              have HOa := Lib.hid (owns_below HO.out W3.out)
              have HBa := Lib.hid (Below.trans HBw.out (W3.out.mono hbs))
              have hsa := HBa.out.size
              repeat (first | (at_builtin; refine wpList_append_own _ rfl _ _ 35 rfl w.heap.size 9 i0 (.string ByteArray.empty) 1 16 Tryd.underlying35 hi hz0 hz1 hz2 rfl (by decide) _ _ _ rfl (HOa.out.alloc _) ⟨w3.heap.size, 0, none⟩ 1 1 [.string X] rfl rfl (one_new _ _ _) (fun x hx => by simp at hx; subst hx; rfl) (by have := HKl.out; unfold maxLen; omega) (by have := HKl.out; omega) (by simp; omega) ?_; intro v' w5 hown' hgrow5 hnil5; have HO5 := Lib.hid hown'; have HB5 := Lib.hid ((HBa.out.alloc hsa (.cells #[.string X] 9)).grown hgrow5 (by simp; omega) (fun j hj => (HOa.out.lt j hj).1)); clear hown' hgrow5 hnil5) | go_skip | go_guarded | go_step | go_upon)
              refine ⟨⟨k + 1, l, done ++ [x.path], by go_num, rfl, by rw [HN.out]; omega, by rw [HM.out]; omega, HD2.out, ?_, HB5.out⟩, by simp [Go.RowKit.intOf]; omega⟩
              rw [List.length_append, List.length_singleton, List.map_append, List.map_singleton, HXt.out]
              exact HO5.out
            · have znb : ¬ z < 0 := zneg
              by_cases zpos : 0 < z
              · have HD2 : Hid (diffM xs ys = (done ++ [y.path]) ++ diffM (xs.drop k) (ys.drop (l + 1))) := Lib.hid (by rw [HDn.out, HDx.out, if_neg zneg, if_pos zpos]; simp)
                repeat (first | go_skip | go_guarded | go_step | go_upon)
                with_reducible refine wp_region_quiet_below (by kernel_rfl) (by kernel_rfl) ?_
                repeat (go_big_quiet_step (first | (go_at_call 33; exact DO.out _ _)))
                refine wpQuiet_nil ?_
                intro _ hw'
                obtain ⟨⟨dq, osq⟩, hw''⟩ := hw'
                subst hw''
                have W3 : Hid (Below wr.heap.size wr (Go.Sort.grow (redrawn wr dq) osq)) := Lib.hid (Below.trans (Below.refl wr.heap.size wr) ((below_regrown wr dq osq).mono ((Below.refl wr.heap.size wr)).size))
                clear f0 f1 DO
                generalize Go.Sort.grow (redrawn wr dq) osq = w3 at W3 ⊢
                repeat (first | go_skip | go_guarded | go_step | go_upon)
                have e0 := CX.out _ W3.out
                have e1 := CY.out _ W3.out
                have f2 := cell_regrown e0
                have f3 := cell_regrown e1
                have DP := Lib.hid (reg_of (w := w3) (fun W _ => CO.out W))
                with_reducible refine wp_region_quiet_below (by kernel_rfl) (by kernel_rfl) ?_
                repeat (go_big_quiet_step (first | (go_at_call 33; exact DP.out _ _)))
                refine wpQuiet_nil ?_
                intro _ hw'
                obtain ⟨⟨dq, osq⟩, hw''⟩ := hw'
                subst hw''
                have W4 : Hid (Below wr.heap.size wr (Go.Sort.grow (redrawn w3 dq) osq)) := Lib.hid (Below.trans W3.out ((below_regrown w3 dq osq).mono (W3.out).size))
                clear f2 f3 DP e0 e1
                generalize Go.Sort.grow (redrawn w3 dq) osq = w4 at W4 ⊢
                have e4 := CY.out _ W4.out
                have HOa := Lib.hid (owns_below HO.out W4.out)
                have HBa := Lib.hid (Below.trans HBw.out (W4.out.mono hbs))
                have hsa := HBa.out.size
                repeat (first | (at_builtin; refine wpList_append_own _ rfl _ _ 35 rfl w.heap.size 9 i0 (.string ByteArray.empty) 1 16 Tryd.underlying35 hi hz0 hz1 hz2 rfl (by decide) _ _ _ rfl (HOa.out.alloc _) ⟨w4.heap.size, 0, none⟩ 1 1 [.string Y] rfl rfl (one_new _ _ _) (fun x hx => by simp at hx; subst hx; rfl) (by have := HKl.out; unfold maxLen; omega) (by have := HKl.out; omega) (by simp; omega) ?_; intro v' w5 hown' hgrow5 hnil5; have HO5 := Lib.hid hown'; have HB5 := Lib.hid ((HBa.out.alloc hsa (.cells #[.string Y] 9)).grown hgrow5 (by simp; omega) (fun j hj => (HOa.out.lt j hj).1)); clear hown' hgrow5 hnil5) | go_skip | go_guarded | go_step | go_upon)
                refine ⟨⟨k, l + 1, done ++ [y.path], rfl, by go_num, by rw [HN.out]; omega, by rw [HM.out]; omega, HD2.out, ?_, HB5.out⟩, by simp [Go.RowKit.intOf]; omega⟩
                rw [List.length_append, List.length_singleton, List.map_append, List.map_singleton, HYt.out]
                exact HO5.out
              · have znp : ¬ 0 < z := zpos
                have HDz : Hid (diffM (xs.drop k) (ys.drop l) = if x = y then diffM (xs.drop (k + 1)) (ys.drop (l + 1)) else x.path :: diffM (xs.drop (k + 1)) (ys.drop (l + 1))) := Lib.hid (by rw [HDx.out, if_neg zneg, if_neg zpos])
                repeat (first | go_skip | go_guarded | go_step | go_upon)
                with_reducible refine wp_region_quiet_below (by kernel_rfl) (by kernel_rfl) ?_
                repeat (go_big_quiet_step (first | (go_at_call 33; exact DO.out _ _)))
                refine wpQuiet_nil ?_
                intro _ hw'
                obtain ⟨⟨dq, osq⟩, hw''⟩ := hw'
                subst hw''
                have W3 : Hid (Below wr.heap.size wr (Go.Sort.grow (redrawn wr dq) osq)) := Lib.hid (Below.trans (Below.refl wr.heap.size wr) ((below_regrown wr dq osq).mono ((Below.refl wr.heap.size wr)).size))
                clear f0 f1 DO
                generalize Go.Sort.grow (redrawn wr dq) osq = w3 at W3 ⊢
                repeat (first | go_skip | go_guarded | go_step | go_upon)
                have e0 := CX.out _ W3.out
                have e1 := CY.out _ W3.out
                have f2 := cell_regrown e0
                have f3 := cell_regrown e1
                have DP := Lib.hid (reg_of (w := w3) (fun W _ => CO.out W))
                with_reducible refine wp_region_quiet_below (by kernel_rfl) (by kernel_rfl) ?_
                repeat (go_big_quiet_step (first | (go_at_call 33; exact DP.out _ _)))
                refine wpQuiet_nil ?_
                intro _ hw'
                obtain ⟨⟨dq, osq⟩, hw''⟩ := hw'
                subst hw''
                have W4 : Hid (Below wr.heap.size wr (Go.Sort.grow (redrawn w3 dq) osq)) := Lib.hid (Below.trans W3.out ((below_regrown w3 dq osq).mono (W3.out).size))
                clear f2 f3 DP e0 e1
                generalize Go.Sort.grow (redrawn w3 dq) osq = w4 at W4 ⊢
                have he := fun W => eq_nd x y W
                unfold ndVal at he
                obtain ⟨XD, hXD⟩ : ∃ S : ByteArray, txt x.data = .string S := ⟨_, rfl⟩
                obtain ⟨YD, hYD⟩ : ∃ S : ByteArray, txt y.data = .string S := ⟨_, rfl⟩
                obtain ⟨x0, x1, x2, x3⟩ := HNx.out.below hg1 W4.out
                obtain ⟨y0, y1, y2, y3⟩ := HNy.out.below hg2 W4.out
                rw [HXt.out] at x0 he
                rw [HYt.out] at y0 he
                rw [hXD] at x2 he
                rw [hYD] at y2 he
                clear hXD hYD
                by_cases hxy : x = y
                · rw [decide_eq_true hxy] at he
                  have HD2 : Hid (diffM xs ys = done ++ diffM (xs.drop (k + 1)) (ys.drop (l + 1))) := Lib.hid (by rw [HDn.out, HDz.out, if_pos hxy])
                  clear hxy
                  repeat (first | go_skip | go_guarded | go_step | go_upon)
                  go_quiet (fail)
                  rename_i nq
                  have W6 : Hid (Below wr.heap.size wr (w4.drewN nq)) := Lib.hid ⟨W4.out.os, W4.out.tape, W4.out.output, W4.out.size, W4.out.block⟩
                  clear x0 x1 x2 x3 y0 y1 y2 y3 he
                  generalize w4.drewN nq = w6 at W6 ⊢
                  repeat (first | go_skip | go_guarded | go_step | go_upon)
                  exact ⟨⟨k + 1, l + 1, done, by go_num, by go_num, by rw [HN.out]; omega, by rw [HM.out]; omega, HD2.out, owns_below HO.out W6.out, Below.trans HBw.out (W6.out.mono hbs)⟩, by simp [Go.RowKit.intOf]; omega⟩
                · rw [decide_eq_false hxy] at he
                  have HD2 : Hid (diffM xs ys = (done ++ [x.path]) ++ diffM (xs.drop (k + 1)) (ys.drop (l + 1))) := Lib.hid (by rw [HDn.out, HDz.out, if_neg hxy]; simp)
                  clear hxy
                  repeat (first | go_skip | go_guarded | go_step | go_upon)
                  go_quiet (fail)
                  rename_i nq
                  have W6 : Hid (Below wr.heap.size wr (w4.drewN nq)) := Lib.hid ⟨W4.out.os, W4.out.tape, W4.out.output, W4.out.size, W4.out.block⟩
                  clear x0 x1 x2 x3 y0 y1 y2 y3 he
                  generalize w4.drewN nq = w6 at W6 ⊢
                  have e6 := CX.out _ W6.out
                  have HOa := Lib.hid (owns_below HO.out W6.out)
                  have HBa := Lib.hid (Below.trans HBw.out (W6.out.mono hbs))
                  have hsa := HBa.out.size
                  repeat (first | (at_builtin; refine wpList_append_own _ rfl _ _ 35 rfl w.heap.size 9 i0 (.string ByteArray.empty) 1 16 Tryd.underlying35 hi hz0 hz1 hz2 rfl (by decide) _ _ _ rfl (HOa.out.alloc _) ⟨w6.heap.size, 0, none⟩ 1 1 [.string X] rfl rfl (one_new _ _ _) (fun x hx => by simp at hx; subst hx; rfl) (by have := HKl.out; unfold maxLen; omega) (by have := HKl.out; omega) (by simp; omega) ?_; intro v' w5 hown' hgrow5 hnil5; have HO5 := Lib.hid hown'; have HB5 := Lib.hid ((HBa.out.alloc hsa (.cells #[.string X] 9)).grown hgrow5 (by simp; omega) (fun j hj => (HOa.out.lt j hj).1)); clear hown' hgrow5 hnil5) | go_skip | go_guarded | go_step | go_upon)
                  refine ⟨⟨k + 1, l + 1, done ++ [x.path], by go_num, by go_num, by rw [HN.out]; omega, by rw [HM.out]; omega, HD2.out, ?_, HB5.out⟩, by simp [Go.RowKit.intOf]; omega⟩
                  rw [List.length_append, List.length_singleton, List.map_append, List.map_singleton, HXt.out]
                  exact HO5.out
          · have lm : l = m := by omega
            have lz : ¬ (l : Int) < m := by omega
            have lb : ((l : Int) == (m : Int)) = true := by simp; omega
            have lb2 : (l == m) = true := by simp; omega
            have lb3 : decide (l = m) = true := decide_eq_true lm
            have HXt := Lib.hid hX
            have HD2 : Hid (diffM xs ys = (done ++ [x.path]) ++ diffM (xs.drop (k + 1)) (ys.drop l)) := Lib.hid (by
              have e0 : ys.drop l = [] := List.drop_of_length_le (by rw [HM.out]; omega)
              rw [HDn.out, e0, diff_left, diff_left, drop_at hx]
              simp)
            have f0 := cell_regrown (CX.out wr (Below.refl _ _))
            clear hXd hXs hc1 hX hx
            repeat (first | go_skip | go_guarded | go_step | go_upon)
            with_reducible refine wp_region_quiet_below (by kernel_rfl) (by kernel_rfl) ?_
            repeat (go_big_quiet_step (fail))
            refine wpQuiet_nil ?_
            intro _ hw'
            obtain ⟨⟨dq, osq⟩, hw''⟩ := hw'
            subst hw''
            have W3 : Hid (Below wr.heap.size wr (Go.Sort.grow (redrawn wr dq) osq)) := Lib.hid (Below.trans (Below.refl wr.heap.size wr) ((below_regrown wr dq osq).mono ((Below.refl wr.heap.size wr)).size))
            clear f0
            generalize Go.Sort.grow (redrawn wr dq) osq = w3 at W3 ⊢
            have e0 := CX.out _ W3.out
            have HOa := Lib.hid (owns_below HO.out W3.out)
            have HBa := Lib.hid (Below.trans HBw.out (W3.out.mono hbs))
            have hsa := HBa.out.size
            repeat (first | (at_builtin; refine wpList_append_own _ rfl _ _ 35 rfl w.heap.size 9 i0 (.string ByteArray.empty) 1 16 Tryd.underlying35 hi hz0 hz1 hz2 rfl (by decide) _ _ _ rfl (HOa.out.alloc _) ⟨w3.heap.size, 0, none⟩ 1 1 [.string X] rfl rfl (one_new _ _ _) (fun x hx => by simp at hx; subst hx; rfl) (by have := HKl.out; unfold maxLen; omega) (by have := HKl.out; omega) (by simp; omega) ?_; intro v' w5 hown' hgrow5 hnil5; have HO5 := Lib.hid hown'; have HB5 := Lib.hid ((HBa.out.alloc hsa (.cells #[.string X] 9)).grown hgrow5 (by simp; omega) (fun j hj => (HOa.out.lt j hj).1)); clear hown' hgrow5 hnil5) | go_skip | go_guarded | go_step | go_upon)
            refine ⟨⟨k + 1, l, done ++ [x.path], by go_num, by rw [lm], by rw [HN.out]; omega, by rw [HM.out]; omega, HD2.out, ?_, HB5.out⟩, by simp [Go.RowKit.intOf]; omega⟩
            rw [List.length_append, List.length_singleton, List.map_append, List.map_singleton, HXt.out]
            exact HO5.out
        · have kn : k = n := by omega
          have kz : ¬ (k : Int) < n := by omega
          have kd : decide (k < n) = false := decide_eq_false hlk
          have kb : ((k : Int) == (n : Int)) = true := by simp; omega
          have kb2 : (k == n) = true := by simp; omega
          have kb3 : decide (k = n) = true := decide_eq_true kn
          by_cases hlm : l < m
          · have lz : (l : Int) < m := by omega
            have ld : decide (l < m) = true := decide_eq_true hlm
            have lb : ((l : Int) == (m : Int)) = false := by simp; omega
            have lb2 : (l == m) = false := by simp; omega
            have lb3 : decide (l = m) = false := decide_eq_false (by omega)
            obtain ⟨g2, o2, rfl, hg2, hc2⟩ := HBr.out (by rw [HM.out]; omega)
            obtain ⟨y, hy⟩ : ∃ y, ys[l]? = some y := ⟨ys[l]'(by rw [HM.out]; exact hlm), List.getElem?_eq_getElem _⟩
            obtain ⟨Y, hY⟩ : ∃ Y : ByteArray, txt y.path = .string Y := ⟨_, rfl⟩
            have HNy := Lib.hid (hc2 l y hy)
            have HYt := Lib.hid hY
            have CY : Hid (∀ W, Below wr.heap.size wr W → W.cell? ⟨g2, o2 + l * 4, none⟩ = some (.string Y)) := Lib.hid (fun W hW => by rw [← hY]; exact (HNy.out.below hg2 hW).p)
            have HD2 : Hid (diffM xs ys = (done ++ [y.path]) ++ diffM (xs.drop k) (ys.drop (l + 1))) := Lib.hid (by
              have e0 : xs.drop k = [] := List.drop_of_length_le (by rw [HN.out]; omega)
              rw [HDn.out, e0, diff_right, diff_right, drop_at hy]
              simp)
            clear hc2 hY hy
            repeat (first | go_skip | go_guarded | go_step | go_upon)
            with_reducible refine wp_region_quiet_below (by kernel_rfl) (by kernel_rfl) ?_
            repeat (go_big_quiet_step (fail))
            refine wpQuiet_nil ?_
            intro _ hw'
            obtain ⟨⟨dq, osq⟩, hw''⟩ := hw'
            subst hw''
            have W3 : Hid (Below wr.heap.size wr (Go.Sort.grow (redrawn wr dq) osq)) := Lib.hid (Below.trans (Below.refl wr.heap.size wr) ((below_regrown wr dq osq).mono ((Below.refl wr.heap.size wr)).size))
            clear kb3
            generalize Go.Sort.grow (redrawn wr dq) osq = w3 at W3 ⊢
            repeat (first | go_skip | go_guarded | go_step | go_upon)
            with_reducible refine wp_region_quiet_below (by kernel_rfl) (by kernel_rfl) ?_
            repeat (go_big_quiet_step (fail))
            refine wpQuiet_nil ?_
            intro _ hw'
            obtain ⟨⟨dq, osq⟩, hw''⟩ := hw'
            subst hw''
            have W4 : Hid (Below wr.heap.size wr (Go.Sort.grow (redrawn w3 dq) osq)) := Lib.hid (Below.trans W3.out ((below_regrown w3 dq osq).mono (W3.out).size))
            clear kb2
            generalize Go.Sort.grow (redrawn w3 dq) osq = w4 at W4 ⊢
            have e4 := CY.out _ W4.out
            have HOa := Lib.hid (owns_below HO.out W4.out)
            have HBa := Lib.hid (Below.trans HBw.out (W4.out.mono hbs))
            have hsa := HBa.out.size
            repeat (first | (at_builtin; refine wpList_append_own _ rfl _ _ 35 rfl w.heap.size 9 i0 (.string ByteArray.empty) 1 16 Tryd.underlying35 hi hz0 hz1 hz2 rfl (by decide) _ _ _ rfl (HOa.out.alloc _) ⟨w4.heap.size, 0, none⟩ 1 1 [.string Y] rfl rfl (one_new _ _ _) (fun x hx => by simp at hx; subst hx; rfl) (by have := HKl.out; unfold maxLen; omega) (by have := HKl.out; omega) (by simp; omega) ?_; intro v' w5 hown' hgrow5 hnil5; have HO5 := Lib.hid hown'; have HB5 := Lib.hid ((HBa.out.alloc hsa (.cells #[.string Y] 9)).grown hgrow5 (by simp; omega) (fun j hj => (HOa.out.lt j hj).1)); clear hown' hgrow5 hnil5) | go_skip | go_guarded | go_step | go_upon)
            refine ⟨⟨k, l + 1, done ++ [y.path], by rw [kn], by go_num, by rw [HN.out]; omega, by rw [HM.out]; omega, HD2.out, ?_, HB5.out⟩, by simp [Go.RowKit.intOf]; omega⟩
            rw [List.length_append, List.length_singleton, List.map_append, List.map_singleton, HYt.out]
            exact HO5.out
          · have lm : l = m := by omega
            have lz : ¬ (l : Int) < m := by omega
            have ld : decide (l < m) = false := decide_eq_false hlm
            have HD2 : Hid (differL xs ys = done) := Lib.hid (by
              have e0 : ys.drop l = [] := List.drop_of_length_le (by rw [HM.out]; omega)
              have e1 : xs.drop k = [] := List.drop_of_length_le (by rw [HN.out]; omega)
              rw [HD.out, HDn.out, e0, e1, diff_left]
              simp)
            repeat (first | go_skip | go_guarded | go_step | go_upon)
            go_ret
            exact ⟨_, rfl, by rw [HD2.out]; exact HO.out, HBw.out⟩
    · have eb2 : ((F : Int) != 0) = true := by simp; omega
      have HF := Lib.hid (differ_bad (a := xs) (b := ys) (.inr (hF0 e2)))
      clear c1 c2 hn hm ha hb sa sb hE hF hE0 hF0 hE1 hF1 la lb e1 e2
      go_enter Tryd.func17, Tryd.ntmps17
      repeat (first | (go_at_call_of 28 (Value.slice ao n ca); refine (C1.out _ HA.out).mono ?_; rintro r w1 ⟨rfl, hb⟩; simp only []; have B1 := Lib.hid hb; clear hb) | (go_at_call_of 28 (Value.slice bo m cb); refine (C2.out _ (HB.out.below B1.out)).mono ?_; rintro r w2 ⟨rfl, hb⟩; simp only []; have B2 := Lib.hid (Below.trans B1.out (hb.mono B1.out.size)); clear hb) | go_skip | go_guarded | go_step | go_upon)
      go_ret
      exact DiffPost.nil HF.out B2.out
  · have eb1 : ((E : Int) != 0) = true := by simp; omega
    have HF := Lib.hid (differ_bad (a := xs) (b := ys) (.inl (hE0 e1)))
    clear c1 c2 hn hm ha hb sa sb hE hF hE0 hF0 hE1 hF1 la lb e1
    go_enter Tryd.func17, Tryd.ntmps17
    repeat (first | (go_at_call_of 28 (Value.slice ao n ca); refine (C1.out _ HA.out).mono ?_; rintro r w1 ⟨rfl, hb⟩; simp only []; have B1 := Lib.hid hb; clear hb) | go_skip | go_guarded | go_step | go_upon)
    go_ret
    exact DiffPost.nil HF.out B1.out
end TR
end Go.Proofs.YtlofdhnghidcnaaDoor
