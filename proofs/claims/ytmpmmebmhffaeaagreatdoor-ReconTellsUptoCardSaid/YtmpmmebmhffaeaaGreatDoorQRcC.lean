/- Texts of this seat, put one behind the other: RcRoot RcAll RcNew. -/
import Derived.Test.YtmpmmebmhffaeaaGreatDoorQRcAt
set_option linter.all false
set_option maxRecDepth 100000
set_option maxHeartbeats 25600000
section
/- Layer 12: the contract of atRoot. -/
namespace Go.Proofs.YtmpmmebmhffaeaaGreatDoor
open Go.RowKit Go.Lib Go.Maps Go.BigFrame Go.Sort
namespace RC
open OM TP TM TR TG TW NP

theorem at_root {t : List Nd} (ht : Tree t) : atL t [] = valP t [] := by
  rw [valP_nil]
  unfold atL
  rw [if_pos ((tree_iff t).2 ht)]
  simp
/-- What At answers at the root. -/
def RootPost (t : List Nd) (w : World) (r : Ending) (w' : World) : Prop := ∃ ao c, r = .returned (.slice ao (valP t []).length c) ∧ LayN w' ao (valP t []) ∧ ((ao = none → c = 0) ∧ (valP t []).length ≤ c) ∧ (∀ g o, ao = some ⟨g, o, none⟩ → w.heap.size ≤ g) ∧ Below w.heap.size w w'
theorem root_any (ao : Option Addr) (cap : Nat) (t : List Nd) (w : World) (he : NF.Env w) (h : LayN w ao t) (ht : Tree t) (hcap : t.length ≤ cap) :
    Calls Tryz.prog 22 #[.slice ao t.length cap, .string ⟨#[]⟩] w (RootPost t w) := by
  refine (at_any ao cap t [] w he h (small_tree ht) (by have := ht.len; unfold maxLen; omega) hcap (by simp)).mono ?_
  rintro r w' ⟨v, rfl, ho, hb⟩
  rw [at_root ht] at ho
  obtain ⟨a2, c, rfl, hl⟩ := lay_own ho
  refine ⟨a2, c, rfl, hl, ⟨fun e => ?_, ?_⟩, fun g o e => ?_, hb⟩
  · subst e
    rcases ho.2 with ⟨e1, _⟩ | ⟨g, cap, cur, e1, _⟩
    · injection e1
    · cases e1
  · rcases ho.2 with ⟨e1, e2⟩ | ⟨g, cap, cur, e1, _, _, h3, _⟩
    · omega
    · injection e1 with _ _ e3
      omega
  · subst e
    rcases ho.2 with ⟨e1, _⟩ | ⟨g2, cap, cur, e1, h2, _⟩
    · cases e1
    · injection e1 with e1
      injection e1 with e1
      injection e1 with e1
      omega
set_option maxRecDepth 100000 in
set_option maxHeartbeats 6400000 in
theorem atRoot_any {xo ta tb : List Nd} (ho : Tree xo) (ha : Tree ta) (hb : Tree tb) (ao aa ab : Option Addr) (co ca cb : Nat) (w : World) (he : NF.Env w) (lo : LayN w ao xo) (la : LayN w aa ta) (lb : LayN w ab tb) (ko : xo.length ≤ co) (ka : ta.length ≤ ca) (kb : tb.length ≤ cb) :
    Calls Tryz.prog 14 #[.slice ao xo.length co, .slice aa ta.length ca, .slice ab tb.length cb] w fun r w' => ∃ b1 b2 b3 vo va vb, r = .returned (trV [] b1 b2 b3 vo va vb) ∧ TrAt w' [] (valP xo []) (valP ta []) (valP tb []) b1 b2 b3 vo va vb ∧ Below w.heap.size w w' := by
  have CO : Hid (∀ W, Below w.heap.size w W → Calls Tryz.prog 22 #[.slice ao xo.length co, .string ⟨#[]⟩] W (RootPost xo W)) := Lib.hid (fun W hW => root_any ao co xo W (he.below hW) (lo.below hW) ho ko)
  have CA : Hid (∀ W, Below w.heap.size w W → Calls Tryz.prog 22 #[.slice aa ta.length ca, .string ⟨#[]⟩] W (RootPost ta W)) := Lib.hid (fun W hW => root_any aa ca ta W (he.below hW) (la.below hW) ha ka)
  have CB : Hid (∀ W, Below w.heap.size w W → Calls Tryz.prog 22 #[.slice ab tb.length cb, .string ⟨#[]⟩] W (RootPost tb W)) := Lib.hid (fun W hW => root_any ab cb tb W (he.below hW) (lb.below hW) hb kb)
  have HE := Lib.hid he
  have IO := Lib.hid (val_in ho (.inl rfl : ([] : List UInt8) = [] ∨ _))
  have IA := Lib.hid (val_in ha (.inl rfl : ([] : List UInt8) = [] ∨ _))
  have IB := Lib.hid (val_in hb (.inl rfl : ([] : List UInt8) = [] ∨ _))
  obtain ⟨no, hno⟩ : ∃ n, xo.length = n := ⟨_, rfl⟩
  obtain ⟨na, hna⟩ : ∃ n, ta.length = n := ⟨_, rfl⟩
  obtain ⟨nb, hnb⟩ : ∃ n, tb.length = n := ⟨_, rfl⟩
  rw [hno] at CO ⊢
  rw [hna] at CA ⊢
  rw [hnb] at CB ⊢
  clear he lo la lb ko ka kb hno hna hnb
  go_enter Tryz.func14, Tryz.ntmps14
  repeat (first | go_skip | go_guarded | go_step | go_upon)
  obtain ⟨W0, hW0⟩ : ∃ W0, (w.alloc (.cells #[.map none, .map none, .map none, .string ⟨#[]⟩, .slice none 0 0, .slice none 0 0, .slice none 0 0] 49)) = W0 := ⟨_, rfl⟩
  have r0 : W0.heap[w.heap.size]? = some (.cells #[.map none, .map none, .map none, .string ⟨#[]⟩, .slice none 0 0, .slice none 0 0, .slice none 0 0] 49 (0, 0)) := by rw [← hW0]; exact heap_alloc_new _ _
  have B0 : Hid (Below w.heap.size w W0) := Lib.hid (by rw [← hW0]; exact (Below.refl _ _).alloc (Nat.le_refl _) _)
  have s0 : W0.heap.size = w.heap.size + 1 := by rw [← hW0]; simp
  rw [hW0]
  clear hW0
  refine (CO.out _ B0.out).mono ?_
  rintro r w1 ⟨y1, f1, rfl, m1, z1, k1', b1⟩
  simp only []
  have B1 := Lib.hid (Below.trans B0.out (b1.mono B0.out.size))
  have r1 := (b1.block w.heap.size (by omega)).trans r0
  have s1 := b1.size
  repeat (first | go_skip | go_guarded | go_step | go_upon)
  refine (CA.out _ B1.out).mono ?_
  rintro r w2 ⟨y2, f2, rfl, m2, z2, k2', b2⟩
  simp only []
  have B2 := Lib.hid (Below.trans B1.out (b2.mono B1.out.size))
  have r2 := (b2.block w.heap.size (by omega)).trans r1
  have s2 := b2.size
  have m12 := m1.below b2
  repeat (first | go_skip | go_guarded | go_step | go_upon)
  refine (CB.out _ B2.out).mono ?_
  rintro r w3 ⟨y3, f3, rfl, m3, z3, k3', b3⟩
  simp only []
  have B3 := Lib.hid (Below.trans B2.out (b3.mono B2.out.size))
  have r3 := (b3.block w.heap.size (by omega)).trans r2
  have s3 := b3.size
  have L1 := Lib.hid (m12.below b3)
  have L2 := Lib.hid (m2.below b3)
  have L3 := Lib.hid m3
  have CS := Lib.hid (standing_any [] y1 y2 y3 f1 f2 f3 _ _ _ w3 (HE.out.below B3.out) L1.out L2.out L3.out IO.out IA.out IB.out z1 z2 z3)
  clear r0 r1 r2 m1 m2 m3 m12 b1 b2 b3
  repeat (first | go_skip | go_guarded | go_step | go_upon)
  refine CS.out.mono ?_
  rintro r w4 ⟨q1, q2, q3, rfl, ht, hb4, hq1, hq2, hq3⟩
  simp only []
  have B4 := Lib.hid (Below.trans B3.out (hb4.mono B3.out.size))
  have r4 := (hb4.block w.heap.size (by omega)).trans r3
  have R4 := Lib.hid r4
  obtain ⟨d0, d1, d2, d3, d4, d5, d6, df⟩ := row7 r4
  obtain ⟨⟨k1, E1, j1, h1⟩, ⟨k2, E2, j2, h2⟩, ⟨k3, E3, j3, h3⟩, -, -, -⟩ := ht
  have H1 := Lib.hid h1
  have H2 := Lib.hid h2
  have H3 := Lib.hid h3
  have HB4 := Lib.hid hb4
  obtain ⟨so, hso⟩ : ∃ n, (valP xo []).length = n := ⟨_, rfl⟩
  obtain ⟨sa, hsa⟩ : ∃ n, (valP ta []).length = n := ⟨_, rfl⟩
  obtain ⟨sb, hsb⟩ : ∃ n, (valP tb []).length = n := ⟨_, rfl⟩
  rw [hso, hsa, hsb]
  unfold trV
  rw [show txt [] = .string ⟨#[]⟩ from rfl]
  clear h1 h2 h3 CS r3 r4 hb4
  repeat (first | go_skip | go_guarded | go_step | go_upon)
  have gz := grown7 w4 w.heap.size (.map (some q1)) (.map (some q2)) (.map (some q3)) (.string ⟨#[]⟩) (.slice y1 so f1) (.slice y2 sa f2) (.slice y3 sb f3)
  have rz := set7 w4 w.heap.size (.map (some q1)) (.map (some q2)) (.map (some q3)) (.string ⟨#[]⟩) (.slice y1 so f1) (.slice y2 sa f2) (.slice y3 sb f3) R4.out
  have bz := Below.trans B4.out (below_of_grown gz (Nat.le_refl _) B4.out.size)
  have b3z : Below w.heap.size w4 _ := below_of_grown gz (Nat.le_refl _) B4.out.size
  have lay : ∀ {y : Option Addr} {ts : List Nd}, LayN w3 y ts → (∀ g o, y = some ⟨g, o, none⟩ → g ≠ w.heap.size) → LayN _ y ts := fun {y ts} hl hne h0 => by
    obtain ⟨g, o, e, hg, hc⟩ := hl h0
    refine ⟨g, o, e, Nat.lt_of_lt_of_le hg (Nat.le_trans HB4.out.size gz.size), fun k n hk => ?_⟩
    have h5 := (hc k n hk).below hg HB4.out
    have hcell : ∀ j, World.cell? _ ⟨g, j, none⟩ = w4.cell? ⟨g, j, none⟩ := fun j => World.cell?_of_block (gz.block g (Nat.lt_of_lt_of_le hg HB4.out.size) (fun e2 => hne g o e (by injection e2)))
    exact ⟨(hcell _).trans h5.p, (hcell _).trans h5.k, (hcell _).trans h5.d, (hcell _).trans h5.m⟩
  refine bodyPost_ret (v := trV [] q1 q2 q3 (.slice y1 so f1) (.slice y2 sa f2) (.slice y3 sb f3)) ?_ rfl ⟨q1, q2, q3, _, _, _, rfl, ⟨⟨_, _, j1, H1.out.beside gz (by omega)⟩, ⟨_, _, j2, H2.out.beside gz (by omega)⟩, ⟨_, _, j3, H3.out.beside gz (by omega)⟩, ⟨y1, f1, by rw [hso], lay L1.out (fun g o e e2 => by have := k1' g o e; omega), z1⟩, ⟨y2, f2, by rw [hsa], lay L2.out (fun g o e e2 => by have := k2' g o e; omega), z2⟩, ⟨y3, f3, by rw [hsb], lay L3.out (fun g o e e2 => by have := k3' g o e; omega), z3⟩⟩, bz⟩
  unfold trV
  rw [show txt [] = .string ⟨#[]⟩ from rfl]
  exact results_cell_row rfl _ _ w.heap.size 49 _ (0, 0) _ rfl rz Tryz.underlying49 rfl (by kernel_rfl)
end RC
end Go.Proofs.YtmpmmebmhffaeaaGreatDoor
end
section
/- Layer 12: the contracts of allTrees, Items, Agree. -/
namespace Go.Proofs.YtmpmmebmhffaeaaGreatDoor
open Go.RowKit Go.Lib Go.Maps Go.BigFrame Go.Sort
namespace RC
open OM TP TM TR TG TW NP

/-- A list of nodes handed in. -/
abbrev In (W : World) (ao : Option Addr) (c : Nat) (t : List Nd) : Prop := TW.Wide W ao c t
def all3 (o a b : List Nd) : Bool := treeB o && (treeB a && treeB b)
theorem check_in {W : World} {ao : Option Addr} {c : Nat} {t : List Nd} (he : NF.Env W) (h : In W ao c t) :
    Calls Tryz.prog 20 #[.slice ao t.length c] W fun r w' => r = .returned (.int .i64 (checkG t : Nat)) ∧ Below W.heap.size W w' := h.check he
theorem check_two {t : List Nd} : (checkG t = 0 ∧ treeB t = true) ∨ (checkG t = 60 ∧ treeB t = false) := by
  cases h : treeB t with
  | true => exact .inl ⟨if_pos h, rfl⟩
  | false => exact .inr ⟨if_neg (by rw [h]; simp), rfl⟩
set_option maxRecDepth 100000 in
set_option maxHeartbeats 6400000 in
theorem allTrees_any (xo ta tb : List Nd) (ao aa ab : Option Addr) (co ca cb : Nat) (w : World) (he : NF.Env w) (lo : In w ao co xo) (la : In w aa ca ta) (lb : In w ab cb tb) :
    Calls Tryz.prog 13 #[.slice ao xo.length co, .slice aa ta.length ca, .slice ab tb.length cb] w fun r w' => r = .returned (.bool (all3 xo ta tb)) ∧ Below w.heap.size w w' := by
  have CO : Hid (∀ W, Below w.heap.size w W → Calls Tryz.prog 20 #[.slice ao xo.length co] W fun r w' => r = .returned (.int .i64 (checkG xo : Nat)) ∧ Below W.heap.size W w') := Lib.hid (fun W hW => check_in (he.below hW) (lo.below hW))
  have CA : Hid (∀ W, Below w.heap.size w W → Calls Tryz.prog 20 #[.slice aa ta.length ca] W fun r w' => r = .returned (.int .i64 (checkG ta : Nat)) ∧ Below W.heap.size W w') := Lib.hid (fun W hW => check_in (he.below hW) (la.below hW))
  have CB : Hid (∀ W, Below w.heap.size w W → Calls Tryz.prog 20 #[.slice ab tb.length cb] W fun r w' => r = .returned (.int .i64 (checkG tb : Nat)) ∧ Below W.heap.size W w') := Lib.hid (fun W hW => check_in (he.below hW) (lb.below hW))
  obtain ⟨no, hno⟩ : ∃ n, xo.length = n := ⟨_, rfl⟩
  obtain ⟨na, hna⟩ : ∃ n, ta.length = n := ⟨_, rfl⟩
  obtain ⟨nb, hnb⟩ : ∃ n, tb.length = n := ⟨_, rfl⟩
  rw [hno] at CO ⊢
  rw [hna] at CA ⊢
  rw [hnb] at CB ⊢
  clear he lo la lb hno hna hnb
  unfold all3
  rcases check_two (t := xo) with ⟨e1, e2⟩ | ⟨e1, e2⟩ <;> rw [e1] at CO <;> rw [e2]
  · rcases check_two (t := ta) with ⟨f1, f2⟩ | ⟨f1, f2⟩ <;> rw [f1] at CA <;> rw [f2]
    · rcases check_two (t := tb) with ⟨g1, g2⟩ | ⟨g1, g2⟩ <;> rw [g1] at CB <;> rw [g2]
      all_goals
        clear e1 e2 f1 f2 g1 g2
        go_enter Tryz.func13, Tryz.ntmps13
        repeat (first | go_skip | go_guarded | go_step | go_upon)
        refine (CO.out _ (Below.refl _ _)).mono ?_
        rintro r w1 ⟨rfl, b1⟩
        simp only []
        repeat (first | go_skip | go_guarded | go_step | go_upon)
        refine (CA.out _ b1).mono ?_
        rintro r w2 ⟨rfl, b2⟩
        simp only []
        have B2 := Below.trans b1 (b2.mono b1.size)
        repeat (first | go_skip | go_guarded | go_step | go_upon)
        refine (CB.out _ B2).mono ?_
        rintro r w3 ⟨rfl, b3⟩
        simp only []
        have B3 := Lib.hid (Below.trans B2 (b3.mono B2.size))
        repeat (first | go_skip | go_guarded | go_step | go_upon)
        go_ret
        exact ⟨rfl, B3.out⟩
    · clear e1 e2 f1 f2
      go_enter Tryz.func13, Tryz.ntmps13
      repeat (first | go_skip | go_guarded | go_step | go_upon)
      refine (CO.out _ (Below.refl _ _)).mono ?_
      rintro r w1 ⟨rfl, b1⟩
      simp only []
      repeat (first | go_skip | go_guarded | go_step | go_upon)
      refine (CA.out _ b1).mono ?_
      rintro r w2 ⟨rfl, b2⟩
      simp only []
      have B2 := Lib.hid (Below.trans b1 (b2.mono b1.size))
      repeat (first | go_skip | go_guarded | go_step | go_upon)
      go_ret
      exact ⟨rfl, B2.out⟩
  · clear e1 e2
    go_enter Tryz.func13, Tryz.ntmps13
    repeat (first | go_skip | go_guarded | go_step | go_upon)
    refine (CO.out _ (Below.refl _ _)).mono ?_
    rintro r w1 ⟨rfl, b1⟩
    simp only []
    have B1 := Lib.hid b1
    repeat (first | go_skip | go_guarded | go_step | go_upon)
    go_ret
    exact ⟨rfl, B1.out⟩
def ItemsAns (xo ta tb : List Nd) (w : World) (r : Ending) (w' : World) : Prop :=
  if all3 xo ta tb = true then ∃ u, r = .returned (.tuple #[u, .int .i64 0]) ∧ w'.ownsRow w.heap.size 43 2 u (itemsL [] (valP xo []) (valP ta []) (valP tb [])).length (itC (itemsL [] (valP xo []) (valP ta []) (valP tb []))) ∧ Below w.heap.size w w'
  else r = .returned (.tuple #[.slice none 0 0, .int .i64 60]) ∧ Below w.heap.size w w'
theorem all3_iff {xo ta tb : List Nd} (h : all3 xo ta tb = true) : Tree xo ∧ Tree ta ∧ Tree tb := by
  unfold all3 at h
  rw [Bool.and_eq_true, Bool.and_eq_true] at h
  exact ⟨(tree_iff _).1 h.1, (tree_iff _).1 h.2.1, (tree_iff _).1 h.2.2⟩
set_option maxRecDepth 100000 in
set_option maxHeartbeats 6400000 in
theorem itemsAll_any (xo ta tb : List Nd) (ao aa ab : Option Addr) (co ca cb : Nat) (w : World) (he : NF.Env w) (lo : In w ao co xo) (la : In w aa ca ta) (lb : In w ab cb tb) :
    Calls Tryz.prog 6 #[.slice ao xo.length co, .slice aa ta.length ca, .slice ab tb.length cb] w (ItemsAns xo ta tb w) := by
  have CK := Lib.hid (allTrees_any xo ta tb ao aa ab co ca cb w he lo la lb)
  have HE := Lib.hid he
  obtain ⟨d, hd⟩ : ∃ d, all3 xo ta tb = d := ⟨_, rfl⟩
  unfold ItemsAns
  rw [hd] at CK ⊢
  cases d with
  | false =>
    obtain ⟨no, hno⟩ : ∃ n, xo.length = n := ⟨_, rfl⟩
    obtain ⟨na, hna⟩ : ∃ n, ta.length = n := ⟨_, rfl⟩
    obtain ⟨nb, hnb⟩ : ∃ n, tb.length = n := ⟨_, rfl⟩
    rw [hno, hna, hnb] at CK ⊢
    simp only [Bool.false_eq_true, if_false]
    clear he lo la lb hd hno hna hnb
    go_enter Tryz.func6, Tryz.ntmps6
    repeat (first | go_skip | go_guarded | go_step | go_upon)
    refine CK.out.mono ?_
    rintro r w1 ⟨rfl, b1⟩
    simp only []
    have B1 := Lib.hid b1
    clear b1
    repeat (first | go_skip | go_guarded | go_step | go_upon)
    go_ret2
    exact ⟨rfl, B1.out⟩
  | true =>
    obtain ⟨t1, t2, t3⟩ := all3_iff hd
    simp only [if_true]
    have CR : Hid (∀ W, Below w.heap.size w W → Calls Tryz.prog 14 #[.slice ao xo.length co, .slice aa ta.length ca, .slice ab tb.length cb] W fun r w' => ∃ b1 b2 b3 vo va vb, r = .returned (trV [] b1 b2 b3 vo va vb) ∧ TrAt w' [] (valP xo []) (valP ta []) (valP tb []) b1 b2 b3 vo va vb ∧ Below W.heap.size W w') := Lib.hid (fun W hW => atRoot_any t1 t2 t3 ao aa ab co ca cb W (he.below hW) (lo.lay.below hW) (la.lay.below hW) (lb.lay.below hW) lo.cap la.cap lb.cap)
    have CI := Lib.hid (items_any t1 t2 t3 1002 [] (.inl rfl) (by have := val_len t2 []; omega))
    obtain ⟨no, hno⟩ : ∃ n, xo.length = n := ⟨_, rfl⟩
    obtain ⟨na, hna⟩ : ∃ n, ta.length = n := ⟨_, rfl⟩
    obtain ⟨nb, hnb⟩ : ∃ n, tb.length = n := ⟨_, rfl⟩
    rw [hno, hna, hnb] at CK CR ⊢
    obtain ⟨L, hL⟩ : ∃ L, itemsL [] (valP xo []) (valP ta []) (valP tb []) = L := ⟨_, rfl⟩
    rw [hL] at CI ⊢
    clear he lo la lb hd hno hna hnb hL t1 t2 t3
    go_enter Tryz.func6, Tryz.ntmps6
    repeat (first | go_skip | go_guarded | go_step | go_upon)
    refine CK.out.mono ?_
    rintro r w1 ⟨rfl, b1⟩
    simp only []
    have B1 := Lib.hid b1
    clear b1
    repeat (first | go_skip | go_guarded | go_step | go_upon)
    refine (CR.out _ B1.out).mono ?_
    rintro r w2 ⟨c1, c2, c3, vo, va, vb, rfl, ht, b2⟩
    simp only []
    have B2 := Lib.hid (Below.trans B1.out (b2.mono B1.out.size))
    have C2 := Lib.hid (CI.out c1 c2 c3 vo va vb w2 (HE.out.below B2.out) ht)
    clear b2 ht
    repeat (first | go_skip | go_guarded | go_step | go_upon)
    refine C2.out.mono ?_
    rintro r w3 ⟨u, rfl, ho, b3⟩
    simp only []
    have B3 := Lib.hid (Below.trans B2.out (b3.mono B2.out.size))
    have HO := Lib.hid (owns_base ho _ B2.out.size)
    clear b3 ho
    repeat (first | go_skip | go_guarded | go_step | go_upon)
    go_ret2
    exact ⟨_, rfl, HO.out, B3.out⟩
theorem agreed_root (xo ta tb : List Nd) : agreedL (valP xo []) (valP ta []) (valP tb []) ≠ [] := by
  rw [agreed_step, valP_nil, valP_nil, valP_nil]
  split
  · simp
  · split
    · simp
    · simp
def AgreeAns (xo ta tb : List Nd) (w : World) (r : Ending) (w' : World) : Prop :=
  if all3 xo ta tb = true then ∃ ao c, r = .returned (.tuple #[.slice ao ((agreedL (valP xo []) (valP ta []) (valP tb [])).length - 1) c, .int .i64 0]) ∧ ((ao = none → c = 0) ∧ (agreedL (valP xo []) (valP ta []) (valP tb [])).length - 1 ≤ c) ∧ LayN w' ao ((agreedL (valP xo []) (valP ta []) (valP tb [])).drop 1) ∧ Below w.heap.size w w'
  else r = .returned (.tuple #[.slice none 0 0, .int .i64 60]) ∧ Below w.heap.size w w'
set_option maxRecDepth 100000 in
set_option maxHeartbeats 6400000 in
theorem agreeAll_any (xo ta tb : List Nd) (ao aa ab : Option Addr) (co ca cb : Nat) (w : World) (he : NF.Env w) (lo : In w ao co xo) (la : In w aa ca ta) (lb : In w ab cb tb) :
    Calls Tryz.prog 8 #[.slice ao xo.length co, .slice aa ta.length ca, .slice ab tb.length cb] w (AgreeAns xo ta tb w) := by
  have CK := Lib.hid (allTrees_any xo ta tb ao aa ab co ca cb w he lo la lb)
  have HE := Lib.hid he
  obtain ⟨d, hd⟩ : ∃ d, all3 xo ta tb = d := ⟨_, rfl⟩
  unfold AgreeAns
  rw [hd] at CK ⊢
  cases d with
  | false =>
    obtain ⟨no, hno⟩ : ∃ n, xo.length = n := ⟨_, rfl⟩
    obtain ⟨na, hna⟩ : ∃ n, ta.length = n := ⟨_, rfl⟩
    obtain ⟨nb, hnb⟩ : ∃ n, tb.length = n := ⟨_, rfl⟩
    rw [hno, hna, hnb] at CK ⊢
    simp only [Bool.false_eq_true, if_false]
    clear he lo la lb hd hno hna hnb
    go_enter Tryz.func8, Tryz.ntmps8
    repeat (first | go_skip | go_guarded | go_step | go_upon)
    refine CK.out.mono ?_
    rintro r w1 ⟨rfl, b1⟩
    simp only []
    have B1 := Lib.hid b1
    clear b1
    repeat (first | go_skip | go_guarded | go_step | go_upon)
    go_ret2
    exact ⟨rfl, B1.out⟩
  | true =>
    obtain ⟨t1, t2, t3⟩ := all3_iff hd
    simp only [if_true]
    have CR : Hid (∀ W, Below w.heap.size w W → Calls Tryz.prog 14 #[.slice ao xo.length co, .slice aa ta.length ca, .slice ab tb.length cb] W fun r w' => ∃ b1 b2 b3 vo va vb, r = .returned (trV [] b1 b2 b3 vo va vb) ∧ TrAt w' [] (valP xo []) (valP ta []) (valP tb []) b1 b2 b3 vo va vb ∧ Below W.heap.size W w') := Lib.hid (fun W hW => atRoot_any t1 t2 t3 ao aa ab co ca cb W (he.below hW) (lo.lay.below hW) (la.lay.below hW) (lb.lay.below hW) lo.cap la.cap lb.cap)
    have CI := Lib.hid (agreed_any t1 t2 t3 1002 [] (.inl rfl) (by have := val_len t2 []; omega))
    obtain ⟨no, hno⟩ : ∃ n, xo.length = n := ⟨_, rfl⟩
    obtain ⟨na, hna⟩ : ∃ n, ta.length = n := ⟨_, rfl⟩
    obtain ⟨nb, hnb⟩ : ∃ n, tb.length = n := ⟨_, rfl⟩
    rw [hno, hna, hnb] at CK CR ⊢
    obtain ⟨L, hL⟩ : ∃ L, agreedL (valP xo []) (valP ta []) (valP tb []) = L := ⟨_, rfl⟩
    have hL0 : L ≠ [] := by rw [← hL]; exact agreed_root xo ta tb
    rw [hL] at CI ⊢
    clear he lo la lb hd hno hna hnb hL t1 t2 t3
    go_enter Tryz.func8, Tryz.ntmps8
    repeat (first | go_skip | go_guarded | go_step | go_upon)
    refine CK.out.mono ?_
    rintro r w1 ⟨rfl, b1⟩
    simp only []
    have B1 := Lib.hid b1
    clear b1
    repeat (first | go_skip | go_guarded | go_step | go_upon)
    refine (CR.out _ B1.out).mono ?_
    rintro r w2 ⟨c1, c2, c3, vo, va, vb, rfl, ht, b2⟩
    simp only []
    have B2 := Lib.hid (Below.trans B1.out (b2.mono B1.out.size))
    have C2 := Lib.hid (CI.out c1 c2 c3 vo va vb w2 (HE.out.below B2.out) ht)
    clear b2 ht
    repeat (first | go_skip | go_guarded | go_step | go_upon)
    refine C2.out.mono ?_
    rintro r w3 ⟨y, c, rfl, hz, hl, b3⟩
    simp only []
    have B3 := Lib.hid (Below.trans B2.out (b3.mono B2.out.size))
    have hL1 : 1 ≤ L.length := List.length_pos_iff.2 hL0
    obtain ⟨y2, c2', hrun, hlay, hc2, hz2⟩ := sl_from ndsl_node y L 1 c hL1 hz.2
    have HL2 := Lib.hid (hlay w3 hl)
    have HZ2 := Lib.hid (hz2 hz.1)
    have HC2 := Lib.hid hc2
    have hrun1 : ∀ W, (Instr.slice 22 (.slice y L.length c) (some (.int .i64 1)) none none).run Tryz.prog W = .ok (.slice y2 (L.length - 1) c2') W := hrun
    clear b3 hl hz hlay hz2 hc2 hrun
    repeat (first | go_skip | go_guarded | go_step | go_upon)
    go_ret2
    exact ⟨_, _, rfl, ⟨HZ2.out, HC2.out⟩, HL2.out, B3.out⟩
end RC
end Go.Proofs.YtmpmmebmhffaeaaGreatDoor
end
section
/- Layer 12: Agree's answer lies in a block that the call made. (Written by tools/gen_rcnew.py.) -/
namespace Go.Proofs.YtmpmmebmhffaeaaGreatDoor
open Go.RowKit Go.Lib Go.Maps Go.BigFrame Go.Sort
namespace RC
open OM TP TM TR TG TW NP

/-- A list that lies, if anywhere, in a block of its own, not below 'b'. -/
def Fr (W : World) (g : Nat) : Prop := ∃ cur t, W.heap[g]? = some (.cells cur t (0, 0))
theorem Fr.below {W W' : World} {g : Nat} (h : Fr W g) (hb : Below W.heap.size W W') : Fr W' g := by
  obtain ⟨cur, t, h⟩ := h
  exact ⟨cur, t, (hb.block g (Array.getElem?_eq_some_iff.1 h).1).trans h⟩
def NewAt (W : World) (b : Nat) (v : Value) : Prop := ∀ g o n c, v = .slice (some ⟨g, o, none⟩) n c → b ≤ g ∧ Fr W g
theorem NewAt.mono {W : World} {b c : Nat} {v : Value} (h : NewAt W b v) (hc : c ≤ b) : NewAt W c v := fun g o n k e => ⟨Nat.le_trans hc (h g o n k e).1, (h g o n k e).2⟩
theorem NewAt.below {W W' : World} {b : Nat} {v : Value} (h : NewAt W b v) (hb : Below W.heap.size W W') : NewAt W' b v := fun g o n k e => ⟨(h g o n k e).1, (h g o n k e).2.below hb⟩
theorem newAt_of {W : World} {b n c : Nat} {ao : Option Addr} (h : ∀ g o, ao = some ⟨g, o, none⟩ → b ≤ g ∧ Fr W g) : NewAt W b (.slice ao n c) := fun g o _ _ e => by
  injection e with e
  exact h g o e
theorem own_newAt {W : World} {base n c m b k : Nat} {ao : Option Addr} {v : Value} {xs : List Value} {e : TypeId} {s : Nat} (h : W.ownsRow base e s v n xs) (hv : v = .slice ao m c) (hb : b ≤ base) : NewAt W b (.slice ao k c) := by
  subst hv
  refine newAt_of fun g o e1 => ?_
  subst e1
  rcases h.2 with ⟨e1, _⟩ | ⟨g2, cap, cur, e1, h2, h3, _⟩
  · cases e1
  · injection e1 with e1
    injection e1 with e1
    injection e1 with e1
    subst e1
    exact ⟨Nat.le_trans hb h2, _, _, h3⟩
def RootPostN (t : List Nd) (w : World) (r : Ending) (w' : World) : Prop := ∃ ao c, r = .returned (.slice ao (valP t []).length c) ∧ LayN w' ao (valP t []) ∧ ((ao = none → c = 0) ∧ (valP t []).length ≤ c) ∧ (∀ g o, ao = some ⟨g, o, none⟩ → w.heap.size ≤ g ∧ Fr w' g) ∧ Below w.heap.size w w'
theorem root_new (ao : Option Addr) (cap : Nat) (t : List Nd) (w : World) (he : NF.Env w) (h : LayN w ao t) (ht : Tree t) (hcap : t.length ≤ cap) :
    Calls Tryz.prog 22 #[.slice ao t.length cap, .string ⟨#[]⟩] w (RootPostN t w) := by
  refine (at_any ao cap t [] w he h (small_tree ht) (by have := ht.len; unfold maxLen; omega) hcap (by simp)).mono ?_
  rintro r w' ⟨v, rfl, ho, hb⟩
  rw [at_root ht] at ho
  obtain ⟨a2, c, rfl, hl⟩ := lay_own ho
  refine ⟨a2, c, rfl, hl, ⟨fun e => ?_, ?_⟩, fun g o e => own_newAt (k := 0) ho rfl (Nat.le_refl _) g o 0 c (by rw [e]), hb⟩
  · subst e
    rcases ho.2 with ⟨e1, _⟩ | ⟨g, cap, cur, e1, _⟩
    · injection e1
    · cases e1
  · rcases ho.2 with ⟨e1, e2⟩ | ⟨g, cap, cur, e1, _, _, h3, _⟩
    · omega
    · injection e1 with _ _ e3
      omega
def AgreePostN (bs : Nat) (l : List Nd) (w : World) (r : Ending) (w' : World) : Prop := ∃ ao c, r = .returned (.slice ao l.length c) ∧ ((ao = none → c = 0) ∧ l.length ≤ c) ∧ LayN w' ao l ∧ Below w.heap.size w w' ∧ NewAt w' bs (.slice ao l.length c)
set_option maxRecDepth 100000 in
set_option maxHeartbeats 12800000 in
theorem agreed_new (p : List UInt8) (o a b : List Nd) (b1 b2 b3 : Nat) (vo va vb : Value) (w : World) (he : NF.Env w) (h : TrAt w p o a b b1 b2 b3 vo va vb) (io : o.length ≤ 1001) (ia : a.length ≤ 1001) (ib : b.length ≤ 1001) (hp : p.length ≤ 1048576) (hn : dirV a = true ∧ dirV b = true → AgreedBelow p o a b) (bs : Nat) (hbs0 : bs ≤ w.heap.size) (no1 : NewAt w bs vo) (na2 : NewAt w bs va) :
    Calls Tryz.prog 18 #[trV p b1 b2 b3 vo va vb] w (AgreePostN bs (agreedL o a b) w) := by
  obtain ⟨i0, hi, hz0, hz1, hz2⟩ : ∃ i0, Tryz.prog.info? 40 = some i0 ∧ i0.zero = some (ndVal zeroN) ∧ i0.size = 4 ∧ i0.bytes = 48 := by
    have := infoN
    cases e : Tryz.prog.info? 40 with
    | none => rw [e] at this; cases this
    | some i0 =>
      rw [e] at this
      simp only [Option.map_some, Option.some.injEq, Prod.mk.injEq] at this
      exact ⟨i0, rfl, this.1, this.2.1, this.2.2⟩
  have AS := Lib.hid (asks h (by unfold maxLen; omega) (by unfold maxLen; omega) (by unfold maxLen; omega))
  obtain ⟨S, hS, hSd⟩ := txt_of p
  have hv : trV p b1 b2 b3 vo va vb = .agg #[.map (some b1), .map (some b2), .map (some b3), .string S, vo, va, vb] := by unfold trV; rw [hS]
  have HT := Lib.hid h
  obtain ⟨-, -, -, ⟨x1, c1, rfl, l1, z1⟩, ⟨x2, c2, rfl, l2, z2⟩, ⟨x3, c3, rfl, -⟩⟩ := h
  have NO := Lib.hid no1
  have NA := Lib.hid na2
  have BS := Lib.hid hbs0
  clear no1 na2 hbs0
  have L1 := Lib.hid l1
  have L2 := Lib.hid l2
  have Z1 := Lib.hid z1
  have Z2 := Lib.hid z2
  clear l1 l2 z1 z2
  have HE := Lib.hid he
  have HI := Lib.hid (agreed_step o a b)
  have HL := Lib.hid (agreed_len o a b)
  have HN := Lib.hid hn
  obtain ⟨no, hno⟩ : ∃ n, o.length = n := ⟨_, rfl⟩
  obtain ⟨na, hna⟩ : ∃ n, a.length = n := ⟨_, rfl⟩
  obtain ⟨nb, hnb⟩ : ∃ n, b.length = n := ⟨_, rfl⟩
  rw [hno, hna, hnb] at AS HT hv
  rw [hno, hna, hnb]
  have HV := Lib.hid hv
  have AD := Lib.hid AS.out.dirs
  have HV := Lib.hid hv
  rw [hv] at AD
  rw [hv]
  clear hv
  have hB0 : Below w.heap.size w (w.alloc (.cells #[.map (some b1), .map (some b2), .map (some b3), .string S, .slice x1 no c1, .slice x2 na c2, .slice x3 nb c3] 49)) := (Below.refl _ _).alloc (Nat.le_refl _) _
  have hr0 := heap_alloc_new w (.cells #[.map (some b1), .map (some b2), .map (some b3), .string S, .slice x1 no c1, .slice x2 na c2, .slice x3 nb c3] 49)
  have hs0 : (w.alloc (.cells #[.map (some b1), .map (some b2), .map (some b3), .string S, .slice x1 no c1, .slice x2 na c2, .slice x3 nb c3] 49)).heap.size = w.heap.size + 1 := by simp
  obtain ⟨W1, hW1⟩ : ∃ W1, w.alloc (.cells #[.map (some b1), .map (some b2), .map (some b3), .string S, .slice x1 no c1, .slice x2 na c2, .slice x3 nb c3] 49) = W1 := ⟨_, rfl⟩
  rw [hW1] at hB0 hr0 hs0
  have LOW : Hid (∀ W, Below W1.heap.size W1 W → Below w.heap.size w W) := Lib.hid (fun W hW => Below.trans hB0 (hW.mono hB0.size))
  have ROW : Hid (∀ W, Below W1.heap.size W1 W → W.heap[w.heap.size]? = some (.cells #[.map (some b1), .map (some b2), .map (some b3), .string S, .slice x1 no c1, .slice x2 na c2, .slice x3 nb c3] 49 (0, 0))) := Lib.hid (fun W hW => (hW.block _ (by omega)).trans hr0)
  have HW1 := Lib.hid hW1
  have B0 : Hid (Below W1.heap.size W1 W1) := Lib.hid (Below.refl _ _)
  have ABt : a = b → Hid (∀ W, Below w.heap.size w W → Calls Tryz.prog 23 #[.slice x2 na c2, .slice x3 nb c3] W fun r w' => r = .returned (.bool true) ∧ Below W.heap.size W w') := fun e => Lib.hid (by have := AS.out.ab; rw [decide_eq_true e] at this; exact this)
  have ABf : ¬ a = b → Hid (∀ W, Below w.heap.size w W → Calls Tryz.prog 23 #[.slice x2 na c2, .slice x3 nb c3] W fun r w' => r = .returned (.bool false) ∧ Below W.heap.size W w') := fun e => Lib.hid (by have := AS.out.ab; rw [decide_eq_false e] at this; exact this)
  have OAt : o = a → Hid (∀ W, Below w.heap.size w W → Calls Tryz.prog 23 #[.slice x1 no c1, .slice x2 na c2] W fun r w' => r = .returned (.bool true) ∧ Below W.heap.size W w') := fun e => Lib.hid (by have := AS.out.oa; rw [decide_eq_true e] at this; exact this)
  have OAf : ¬ o = a → Hid (∀ W, Below w.heap.size w W → Calls Tryz.prog 23 #[.slice x1 no c1, .slice x2 na c2] W fun r w' => r = .returned (.bool false) ∧ Below W.heap.size W w') := fun e => Lib.hid (by have := AS.out.oa; rw [decide_eq_false e] at this; exact this)
  have OBt : o = b → Hid (∀ W, Below w.heap.size w W → Calls Tryz.prog 23 #[.slice x1 no c1, .slice x3 nb c3] W fun r w' => r = .returned (.bool true) ∧ Below W.heap.size W w') := fun e => Lib.hid (by have := AS.out.ob; rw [decide_eq_true e] at this; exact this)
  have OBf : ¬ o = b → Hid (∀ W, Below w.heap.size w W → Calls Tryz.prog 23 #[.slice x1 no c1, .slice x3 nb c3] W fun r w' => r = .returned (.bool false) ∧ Below W.heap.size W w') := fun e => Lib.hid (by have := AS.out.ob; rw [decide_eq_false e] at this; exact this)
  obtain ⟨dd, hdd⟩ : ∃ dd, (dirV a && dirV b) = dd := ⟨_, rfl⟩
  rw [hdd] at AD
  have HD : Hid ((dirV a && dirV b) = dd) := Lib.hid hdd
  have hIO := Lib.hid io
  have hIA := Lib.hid ia
  have hIB := Lib.hid ib
  obtain ⟨c0, c1', c2', c3', c4, c5, c6, cf⟩ := row7 (ROW.out _ B0.out)
  have HNo := Lib.hid hno
  have HNa := Lib.hid hna
  clear hdd hW1 hB0 hr0 hs0 he hn io ia ib hno hna hnb
  go_enter Tryz.func18, Tryz.ntmps18
  repeat (first | go_skip | go_guarded | go_step | go_upon)
  rw [HW1.out]
  by_cases hab : a = b
  · have CAB := ABt hab
    refine (CAB.out _ (LOW.out _ B0.out)).mono ?_
    rintro r w1 ⟨rfl, hb⟩
    simp only []
    have B1 := Lib.hid (Below.trans B0.out (hb.mono B0.out.size))
    clear hb
    obtain ⟨c0, c1', c2', c3', c4, c5, c6, cf⟩ := row7 (ROW.out _ B1.out)
    repeat (first | go_skip | go_guarded | go_step | go_upon)
    go_ret
    have he : agreedL o a b = a := by rw [HI.out, if_pos hab]
    refine ⟨x2, c2, ?_, by rw [he]; exact Z2.out, ?_, LOW.out _ B1.out, by rw [he]; exact NA.out.below (LOW.out _ B1.out)⟩
    · rw [he, HNa.out]; rfl
    · rw [he]
      exact L2.out.below (LOW.out _ B1.out)
  · have CAB := ABf hab
    cases dd with
    | true =>
      refine (CAB.out _ (LOW.out _ B0.out)).mono ?_
      rintro r w1 ⟨rfl, hb⟩
      simp only []
      have B1 := Lib.hid (Below.trans B0.out (hb.mono B0.out.size))
      clear hb
      obtain ⟨c0, c1', c2', c3', c4, c5, c6, cf⟩ := row7 (ROW.out _ B1.out)
      repeat (first | go_skip | go_guarded | go_step | go_upon)
      refine (AD.out _ (LOW.out _ B1.out)).mono ?_
      rintro r w2 ⟨rfl, hb⟩
      simp only []
      have B2 := Lib.hid (Below.trans B1.out (hb.mono B1.out.size))
      clear hb
      obtain ⟨c0, c1', c2', c3', c4, c5, c6, cf⟩ := row7 (ROW.out _ B2.out)
      have hd : dirV a = true ∧ dirV b = true := by have := HD.out; rw [Bool.and_eq_true] at this; exact this
      have hne : a ≠ [] := fun e => by rw [e] at hd; cases hd.1
      obtain ⟨y, r0, hy⟩ : ∃ y r0, a = y :: r0 := by
        cases a with
        | nil => exact absurd rfl hne
        | cons y r0 => exact ⟨y, r0, rfl⟩
      have hna1 : 1 ≤ na := by rw [← HNa.out, hy]; simp
      obtain ⟨ga, oa, hx2, hgal, hac⟩ := L2.out (by rw [HNa.out]; omega)
      obtain ⟨p0, p1, p2, p3⟩ := hac 0 y (by rw [hy]; rfl)
      rw [Nat.zero_mul, Nat.add_zero] at p0 p1 p2 p3
      have HY : Hid (a.take 1 = [y]) := Lib.hid (by rw [hy]; rfl)
      obtain ⟨Y, hY, _⟩ := txt_of y.path
      obtain ⟨E, hE, _⟩ := txt_of y.data
      rw [hY] at p0
      rw [hE] at p2
      have HCY : Hid (∀ W, Below w.heap.size w W → W.cell? ⟨ga, oa, none⟩ = some (.string Y) ∧ W.cell? ⟨ga, oa + 1, none⟩ = some (.int .i64 y.kind) ∧ W.cell? ⟨ga, oa + 2, none⟩ = some (.string E) ∧ W.cell? ⟨ga, oa + 3, none⟩ = some (.int .i64 y.mode)) := Lib.hid (fun W hW => ⟨(hW.cell (p := ⟨ga, oa, none⟩) hgal).trans p0, (hW.cell (p := ⟨ga, oa + 1, none⟩) hgal).trans p1, (hW.cell (p := ⟨ga, oa + 2, none⟩) hgal).trans p2, (hW.cell (p := ⟨ga, oa + 3, none⟩) hgal).trans p3⟩)
      subst hx2
      clear hy hac p0 p1 p2 p3 hne
      obtain ⟨e0, e1, e2, e3⟩ := HCY.out _ (LOW.out _ B2.out)
      have hnaz : (0 : Int) < na := by omega
      have hlt2 : w.heap.size < w2.heap.size := (Array.getElem?_eq_some_iff.1 (ROW.out _ B2.out)).1
      repeat (first | go_skip | go_guarded | go_step | go_upon)
      have HOY := Lib.hid (own_new w2 w2.heap.size (Nat.le_refl _) y _ _ hY hE)
      obtain ⟨w3, hw3⟩ : ∃ w3, w2.alloc (.cells #[.string Y, .int .i64 y.kind, .string E, .int .i64 y.mode] 40) = w3 := ⟨_, rfl⟩
      have B3 : Hid (Below W1.heap.size W1 w3) := Lib.hid (by rw [← hw3]; exact B2.out.alloc B2.out.size _)
      have B23 : Hid (Below w2.heap.size w2 w3) := Lib.hid (by rw [← hw3]; exact (Below.refl _ _).alloc (Nat.le_refl _) _)
      have hs32 : w2.heap.size ≤ w3.heap.size := B23.out.size
      have hs21 : w.heap.size ≤ w2.heap.size := (LOW.out _ B2.out).size
      rw [hw3] at HOY
      rw [hw3]
      clear hw3 e0 e1 e2 e3
      obtain ⟨c0, c1', c2', c3', c4, c5, c6, cf⟩ := row7 (ROW.out _ B3.out)
      have HNd := Lib.hid (HN.out hd)
      obtain ⟨F, hF⟩ : ∃ F : List UInt8 → List Nd, (fun k => agreedL (subL o k) (subL a k) (subL b k)) = F := ⟨_, rfl⟩
      have HF : Hid (∀ k, agreedL (subL o k) (subL a k) (subL b k) = F k) := Lib.hid (fun k => by rw [← hF])
      have HR : Hid (agreedL o a b = a.take 1 ++ (namesK o a b).flatMap F) := Lib.hid (by rw [HI.out, if_neg hab, if_pos hd, ← hF])
      have HB3 : Hid ((agreedL o a b).length ≤ 3003) := Lib.hid (by have := HL.out; have := hIO.out; have := hIA.out; have := hIB.out; omega)
      have CN := Lib.hid (AS.out.names _ (LOW.out _ B3.out))
      obtain ⟨ns, hns⟩ : ∃ ns, namesK o a b = ns := ⟨_, rfl⟩
      have HNS := Lib.hid hns
      rw [hns] at CN HR
      obtain ⟨n, hn⟩ : ∃ n, ns.length = n := ⟨_, rfl⟩
      have HNn := Lib.hid hn
      rw [hn] at CN
      clear hF hns hn
      refine CN.out.mono ?_
      rintro r w4 ⟨u, rfl, ho, hb⟩
      simp only []
      have HU := Lib.hid (owns_base ho w2.heap.size hs32)
      have B4 := Lib.hid (Below.trans B3.out (hb.mono B3.out.size))
      have B24 := Lib.hid (Below.trans B23.out (hb.mono hs32))
      have HY4 := Lib.hid (owns_below HOY.out hb)
      clear hb
      obtain ⟨ua, uc, hu, hul⟩ := owns_view ho
      subst hu
      clear ho hul
      have hnl : n ≤ maxLen := owns_len HU.out
      unfold maxLen at hnl
      obtain ⟨c0, c1', c2', c3', c4, c5, c6, cf⟩ := row7 (ROW.out _ B4.out)
      repeat (first | go_skip | go_guarded | go_step | go_upon)
      have hs41 := (LOW.out _ B4.out).size
      go_loopw [3, 26] (fun s3 s26 wr => ∃ j : Nat, s26 = .int .i64 j ∧ j ≤ n ∧ wr.ownsRow w2.heap.size 40 4 s3 (y :: (ns.take j).flatMap F).length (nodesC (y :: (ns.take j).flatMap F)) ∧ wr.ownsRow w2.heap.size 9 1 (.slice ua n uc) n (ns.map encStr) ∧ Below w2.heap.size w2 wr) (fun _ s26 _ => n - (Go.RowKit.intOf s26).toNat)
      case atStart => exact ⟨0, rfl, Nat.zero_le _, by have := HY4.out; simpa [nodesC] using this, HU.out, B24.out⟩
      case round =>
        obtain ⟨j, rfl, hj, ho, hnm, hb⟩ := hrel
        have HNm := Lib.hid hnm
        have HO := Lib.hid ho
        have HB := Lib.hid hb
        have hbs := hb.size
        have BW := Lib.hid (Below.trans B2.out (hb.mono B2.out.size))
        clear ho hb hnm
        by_cases hlt : j < n
        · have hlz : (j : Int) < n := by omega
          obtain ⟨k, hk⟩ : ∃ k, ns[j]? = some k := ⟨ns[j]'(by rw [HNn.out]; exact hlt), List.getElem?_eq_getElem _⟩
          obtain ⟨ua2, uc2, hu2, hul⟩ := owns_view HNm.out
          injection hu2 with hu2a _ hu2c
          subst hu2a hu2c
          obtain ⟨g, hg, hgl, hgb, hgc⟩ := hul (by omega)
          subst hg
          have ck := hgc j (by omega)
          rw [List.getElem?_map, hk, Option.map_some] at ck
          obtain ⟨K, hK⟩ : ∃ K, encStr k = .string K := ⟨_, rfl⟩
          rw [hK] at ck
          have hkm : k ∈ namesK o a b := by rw [HNS.out]; exact List.mem_of_getElem? hk
          obtain ⟨hsub, hcalls⟩ := HNd.out k hkm
          have HSub := Lib.hid hsub
          have HCalls := Lib.hid hcalls
          have CB := below_any p k o a b b1 b2 b3 _ _ _ wr (HE.out.below (LOW.out _ BW.out)) (HT.out.below (LOW.out _ BW.out)) hp hsub.len hsub.o hsub.a hsub.b
          rw [HV.out, show txt k = .string K from hK] at CB
          have CBH := Lib.hid CB
          have HAcc : Hid ((ns.take (j + 1)).flatMap F = (ns.take j).flatMap F ++ F k) := Lib.hid (by rw [List.take_add_one, hk, Option.toList_some, List.flatMap_append]; simp)
          have hlen : ((ns.take (j + 1)).flatMap F).length ≤ 3003 := by
            have h1 := HB3.out
            rw [HR.out] at h1
            have h2 : ns.flatMap F = (ns.take (j + 1)).flatMap F ++ (ns.drop (j + 1)).flatMap F := by rw [← List.flatMap_append, List.take_append_drop]
            rw [h2, List.length_append, List.length_append] at h1
            omega
          rw [HAcc.out, List.length_append] at hlen
          have HLen := Lib.hid hlen
          clear hlen CB hsub hcalls hgc hK hkm hul
          obtain ⟨d0, d1, d2, d3, d4, d5, d6, df⟩ := row7 (ROW.out _ BW.out)
          repeat (first | go_skip | go_guarded | go_step | go_upon)
          refine CBH.out.mono ?_
          rintro r w5 ⟨q1, q2, q3, uo, va, vb, rfl, ht, hb⟩
          simp only []
          have B5 := Lib.hid hb
          have CI := Lib.hid (HCalls.out q1 q2 q3 uo va vb w5 ((HE.out.below (LOW.out _ BW.out)).below hb) ht)
          clear hb ht
          repeat (first | go_skip | go_guarded | go_step | go_upon)
          refine CI.out.mono ?_
          rintro r w6 ⟨ao6, c6', rfl, hz6, hl6, hb6⟩
          simp only []
          have B6 := Lib.hid (Below.trans B5.out (hb6.mono B5.out.size))
          have HL6 := Lib.hid hl6
          have HZ6 := Lib.hid hz6
          have HNm6 := Lib.hid (owns_below HNm.out B6.out)
          have HO5 := Lib.hid (owns_below HO.out B6.out)
          have hs6 := B6.out.size
          rw [HF.out k] at HL6
          rw [HF.out k]
          clear hl6 hz6 hb6
          repeat (first
            | (at_builtin; refine append_lay rfl _ _ rfl w2.heap.size i0 hi hz0 hz1 hz2 _ _ _ rfl HO5.out ao6 c6' (F k) rfl HZ6.out.1 HL6.out (by have := HLen.out; simp only [List.length_cons]; unfold maxLen; omega) (by have := HLen.out; simp only [List.length_cons]; omega) (by omega) ?_; intro v' w7 ho7 hg7; have HO7 := Lib.hid ho7; have HG7 := Lib.hid hg7; clear ho7 hg7)
            | go_skip | go_guarded | go_step | go_upon)
          have b7 := (Below.trans HB.out (B6.out.mono hbs)).grown HG7.out (by omega) (fun i hi => (HO5.out.lt i hi).1)
          have n7 := owns_others HNm6.out (by decide) (others_grown HO5.out HG7.out)
          refine ⟨⟨j + 1, by go_num, by omega, ?_, n7, b7⟩, by simp [Go.RowKit.intOf]; omega⟩
          rw [HAcc.out, show y :: ((ns.take j).flatMap F ++ F k) = (y :: (ns.take j).flatMap F) ++ F k from rfl, List.length_append, nodesC_app]
          exact HO7.out
        · have hlz : ¬ (j : Int) < n := by omega
          have hjn : j = n := by omega
          have HEq : Hid (y :: (ns.take j).flatMap F = agreedL o a b) := Lib.hid (by rw [hjn, ← HNn.out, List.take_length, HR.out, HY.out]; rfl)
          clear hlt hjn
          repeat (first | go_skip | go_guarded | go_step | go_upon)
          go_ret
          obtain ⟨r1, r2, r3, r4⟩ := lay_own HO.out
          refine ⟨r1, r2, ?_, ⟨fun e => ?_, ?_⟩, ?_, LOW.out _ BW.out, own_newAt HO.out r3 (by have := BS.out; omega)⟩
          · rw [← HEq.out, ← r3]; rfl
          · subst e
            have := r4 (by simp)
            obtain ⟨_, _, e2, _⟩ := this
            cases e2
          · rw [← HEq.out]
            rcases HO.out.2 with ⟨e1, e2⟩ | ⟨g, cap, cur, e1, _, _, h3, _⟩
            · simp at e2
            · have e4 := r3.symm.trans e1
              injection e4 with _ _ e5
              omega
          · rw [← HEq.out]; exact r4
    | false =>
      have hd : ¬ (dirV a = true ∧ dirV b = true) := fun e => by have := HD.out; rw [e.1, e.2] at this; cases this
      refine (CAB.out _ (LOW.out _ B0.out)).mono ?_
      rintro r w1 ⟨rfl, hb⟩
      simp only []
      have B1 := Lib.hid (Below.trans B0.out (hb.mono B0.out.size))
      clear hb
      obtain ⟨c0, c1', c2', c3', c4, c5, c6, cf⟩ := row7 (ROW.out _ B1.out)
      repeat (first | go_skip | go_guarded | go_step | go_upon)
      refine (AD.out _ (LOW.out _ B1.out)).mono ?_
      rintro r w2 ⟨rfl, hb⟩
      simp only []
      have B2 := Lib.hid (Below.trans B1.out (hb.mono B1.out.size))
      clear hb
      obtain ⟨c0, c1', c2', c3', c4, c5, c6, cf⟩ := row7 (ROW.out _ B2.out)
      repeat (first | go_skip | go_guarded | go_step | go_upon)
      go_ret
      have he : agreedL o a b = o := by rw [HI.out, if_neg hab, if_neg hd]
      refine ⟨x1, c1, ?_, by rw [he]; exact Z1.out, ?_, LOW.out _ B2.out, by rw [he]; exact NO.out.below (LOW.out _ B2.out)⟩
      · rw [he, HNo.out]; rfl
      · rw [he]
        exact L1.out.below (LOW.out _ B2.out)
theorem agreed_rootN {xo ta tb : List Nd} (ho : Tree xo) (ha : Tree ta) (hb : Tree tb) : ∀ (b1 b2 b3 : Nat) (vo va vb : Value) (w : World), NF.Env w → TrAt w [] (valP xo []) (valP ta []) (valP tb []) b1 b2 b3 vo va vb → ∀ bs, bs ≤ w.heap.size → NewAt w bs vo → NewAt w bs va →
    Calls Tryz.prog 18 #[trV [] b1 b2 b3 vo va vb] w (AgreePostN bs (agreedL (valP xo []) (valP ta []) (valP tb [])) w) := fun b1 b2 b3 vo va vb w he h bs hbs h1 h2 =>
  agreed_new [] _ _ _ b1 b2 b3 vo va vb w he h (val_len ho []) (val_len ha []) (val_len hb []) (by simp) (fun hd k hk => by
    obtain ⟨h1, eo, ea, eb, hs⟩ := name_ok ho ha hb (.inl rfl) hk
    refine ⟨hs, fun c1 c2 c3 uo ua ub W hE hT => ?_⟩
    have hne : valP ta [] ≠ [] := fun e => by rw [e] at hd; cases hd.1
    rw [eo, ea, eb] at hT ⊢
    exact agreed_any ho ha hb 1003 (belowP [] k) (.inr h1) (by have := val_len ha (belowP [] k); omega) c1 c2 c3 uo ua ub W hE hT) bs hbs h1 h2
set_option maxRecDepth 100000 in
set_option maxHeartbeats 6400000 in
theorem atRoot_new {xo ta tb : List Nd} (ho : Tree xo) (ha : Tree ta) (hb : Tree tb) (ao aa ab : Option Addr) (co ca cb : Nat) (w : World) (he : NF.Env w) (lo : LayN w ao xo) (la : LayN w aa ta) (lb : LayN w ab tb) (ko : xo.length ≤ co) (ka : ta.length ≤ ca) (kb : tb.length ≤ cb) :
    Calls Tryz.prog 14 #[.slice ao xo.length co, .slice aa ta.length ca, .slice ab tb.length cb] w fun r w' => ∃ b1 b2 b3 vo va vb, r = .returned (trV [] b1 b2 b3 vo va vb) ∧ TrAt w' [] (valP xo []) (valP ta []) (valP tb []) b1 b2 b3 vo va vb ∧ (NewAt w' w.heap.size vo ∧ NewAt w' w.heap.size va) ∧ Below w.heap.size w w' := by
  have CO : Hid (∀ W, Below w.heap.size w W → Calls Tryz.prog 22 #[.slice ao xo.length co, .string ⟨#[]⟩] W (RootPostN xo W)) := Lib.hid (fun W hW => root_new ao co xo W (he.below hW) (lo.below hW) ho ko)
  have CA : Hid (∀ W, Below w.heap.size w W → Calls Tryz.prog 22 #[.slice aa ta.length ca, .string ⟨#[]⟩] W (RootPostN ta W)) := Lib.hid (fun W hW => root_new aa ca ta W (he.below hW) (la.below hW) ha ka)
  have CB : Hid (∀ W, Below w.heap.size w W → Calls Tryz.prog 22 #[.slice ab tb.length cb, .string ⟨#[]⟩] W (RootPostN tb W)) := Lib.hid (fun W hW => root_new ab cb tb W (he.below hW) (lb.below hW) hb kb)
  have HE := Lib.hid he
  have IO := Lib.hid (val_in ho (.inl rfl : ([] : List UInt8) = [] ∨ _))
  have IA := Lib.hid (val_in ha (.inl rfl : ([] : List UInt8) = [] ∨ _))
  have IB := Lib.hid (val_in hb (.inl rfl : ([] : List UInt8) = [] ∨ _))
  obtain ⟨no, hno⟩ : ∃ n, xo.length = n := ⟨_, rfl⟩
  obtain ⟨na, hna⟩ : ∃ n, ta.length = n := ⟨_, rfl⟩
  obtain ⟨nb, hnb⟩ : ∃ n, tb.length = n := ⟨_, rfl⟩
  rw [hno] at CO ⊢
  rw [hna] at CA ⊢
  rw [hnb] at CB ⊢
  clear he lo la lb ko ka kb hno hna hnb
  go_enter Tryz.func14, Tryz.ntmps14
  repeat (first | go_skip | go_guarded | go_step | go_upon)
  obtain ⟨W0, hW0⟩ : ∃ W0, (w.alloc (.cells #[.map none, .map none, .map none, .string ⟨#[]⟩, .slice none 0 0, .slice none 0 0, .slice none 0 0] 49)) = W0 := ⟨_, rfl⟩
  have r0 : W0.heap[w.heap.size]? = some (.cells #[.map none, .map none, .map none, .string ⟨#[]⟩, .slice none 0 0, .slice none 0 0, .slice none 0 0] 49 (0, 0)) := by rw [← hW0]; exact heap_alloc_new _ _
  have B0 : Hid (Below w.heap.size w W0) := Lib.hid (by rw [← hW0]; exact (Below.refl _ _).alloc (Nat.le_refl _) _)
  have s0 : W0.heap.size = w.heap.size + 1 := by rw [← hW0]; simp
  rw [hW0]
  clear hW0
  refine (CO.out _ B0.out).mono ?_
  rintro r w1 ⟨y1, f1, rfl, m1, z1, k1', b1⟩
  simp only []
  have B1 := Lib.hid (Below.trans B0.out (b1.mono B0.out.size))
  have r1 := (b1.block w.heap.size (by omega)).trans r0
  have s1 := b1.size
  repeat (first | go_skip | go_guarded | go_step | go_upon)
  refine (CA.out _ B1.out).mono ?_
  rintro r w2 ⟨y2, f2, rfl, m2, z2, k2', b2⟩
  simp only []
  have B2 := Lib.hid (Below.trans B1.out (b2.mono B1.out.size))
  have r2 := (b2.block w.heap.size (by omega)).trans r1
  have s2 := b2.size
  have m12 := m1.below b2
  repeat (first | go_skip | go_guarded | go_step | go_upon)
  refine (CB.out _ B2.out).mono ?_
  rintro r w3 ⟨y3, f3, rfl, m3, z3, k3', b3⟩
  simp only []
  have B3 := Lib.hid (Below.trans B2.out (b3.mono B2.out.size))
  have r3 := (b3.block w.heap.size (by omega)).trans r2
  have s3 := b3.size
  have HW13 := Lib.hid (b2.trans (b3.mono b2.size))
  have HW23 := Lib.hid b3
  have L1 := Lib.hid (m12.below b3)
  have L2 := Lib.hid (m2.below b3)
  have L3 := Lib.hid m3
  have CS := Lib.hid (standing_any [] y1 y2 y3 f1 f2 f3 _ _ _ w3 (HE.out.below B3.out) L1.out L2.out L3.out IO.out IA.out IB.out z1 z2 z3)
  clear r0 r1 r2 m1 m2 m3 m12 b1 b2 b3
  repeat (first | go_skip | go_guarded | go_step | go_upon)
  refine CS.out.mono ?_
  rintro r w4 ⟨q1, q2, q3, rfl, ht, hb4, hq1, hq2, hq3⟩
  simp only []
  have B4 := Lib.hid (Below.trans B3.out (hb4.mono B3.out.size))
  have r4 := (hb4.block w.heap.size (by omega)).trans r3
  have R4 := Lib.hid r4
  obtain ⟨d0, d1, d2, d3, d4, d5, d6, df⟩ := row7 r4
  obtain ⟨⟨k1, E1, j1, h1⟩, ⟨k2, E2, j2, h2⟩, ⟨k3, E3, j3, h3⟩, -, -, -⟩ := ht
  have H1 := Lib.hid h1
  have H2 := Lib.hid h2
  have H3 := Lib.hid h3
  have HB4 := Lib.hid hb4
  obtain ⟨so, hso⟩ : ∃ n, (valP xo []).length = n := ⟨_, rfl⟩
  obtain ⟨sa, hsa⟩ : ∃ n, (valP ta []).length = n := ⟨_, rfl⟩
  obtain ⟨sb, hsb⟩ : ∃ n, (valP tb []).length = n := ⟨_, rfl⟩
  rw [hso, hsa, hsb]
  unfold trV
  rw [show txt [] = .string ⟨#[]⟩ from rfl]
  clear h1 h2 h3 CS r3 r4 hb4
  repeat (first | go_skip | go_guarded | go_step | go_upon)
  have gz := grown7 w4 w.heap.size (.map (some q1)) (.map (some q2)) (.map (some q3)) (.string ⟨#[]⟩) (.slice y1 so f1) (.slice y2 sa f2) (.slice y3 sb f3)
  have rz := set7 w4 w.heap.size (.map (some q1)) (.map (some q2)) (.map (some q3)) (.string ⟨#[]⟩) (.slice y1 so f1) (.slice y2 sa f2) (.slice y3 sb f3) R4.out
  have bz := Below.trans B4.out (below_of_grown gz (Nat.le_refl _) B4.out.size)
  have b3z : Below w.heap.size w4 _ := below_of_grown gz (Nat.le_refl _) B4.out.size
  have lay : ∀ {y : Option Addr} {ts : List Nd}, LayN w3 y ts → (∀ g o, y = some ⟨g, o, none⟩ → g ≠ w.heap.size) → LayN _ y ts := fun {y ts} hl hne h0 => by
    obtain ⟨g, o, e, hg, hc⟩ := hl h0
    refine ⟨g, o, e, Nat.lt_of_lt_of_le hg (Nat.le_trans HB4.out.size gz.size), fun k n hk => ?_⟩
    have h5 := (hc k n hk).below hg HB4.out
    have hcell : ∀ j, World.cell? _ ⟨g, j, none⟩ = w4.cell? ⟨g, j, none⟩ := fun j => World.cell?_of_block (gz.block g (Nat.lt_of_lt_of_le hg HB4.out.size) (fun e2 => hne g o e (by injection e2)))
    exact ⟨(hcell _).trans h5.p, (hcell _).trans h5.k, (hcell _).trans h5.d, (hcell _).trans h5.m⟩
  have fr : ∀ g, g ≠ w.heap.size → Fr w4 g → Fr _ g := fun g hg h => by
    obtain ⟨cur, t, h⟩ := h
    exact ⟨cur, t, (gz.block g (Array.getElem?_eq_some_iff.1 h).1 (fun e2 => hg (by injection e2))).trans h⟩
  refine bodyPost_ret (v := trV [] q1 q2 q3 (.slice y1 so f1) (.slice y2 sa f2) (.slice y3 sb f3)) ?_ rfl ⟨q1, q2, q3, _, _, _, rfl, ⟨⟨_, _, j1, H1.out.beside gz (by omega)⟩, ⟨_, _, j2, H2.out.beside gz (by omega)⟩, ⟨_, _, j3, H3.out.beside gz (by omega)⟩, ⟨y1, f1, by rw [hso], lay L1.out (fun g o e e2 => by have := (k1' g o e).1; omega), z1⟩, ⟨y2, f2, by rw [hsa], lay L2.out (fun g o e e2 => by have := (k2' g o e).1; omega), z2⟩, ⟨y3, f3, by rw [hsb], lay L3.out (fun g o e e2 => by have := (k3' g o e).1; omega), z3⟩⟩, ⟨newAt_of fun g o e => ⟨by have := (k1' g o e).1; omega, fr g (by have := (k1' g o e).1; omega) (((k1' g o e).2.below HW13.out).below HB4.out)⟩, newAt_of fun g o e => ⟨by have := (k2' g o e).1; omega, fr g (by have := (k2' g o e).1; omega) (((k2' g o e).2.below HW23.out).below HB4.out)⟩⟩, bz⟩
  unfold trV
  rw [show txt [] = .string ⟨#[]⟩ from rfl]
  exact results_cell_row rfl _ _ w.heap.size 49 _ (0, 0) _ rfl rz Tryz.underlying49 rfl (by kernel_rfl)
theorem NewAt.from {b n c : Nat} {y y2 : Option Addr} {m c2 : Nat} {V : World} (h : NewAt V b (.slice y n c)) (W : World) (hy : (Instr.slice 22 (.slice y n c) (some (.int .i64 (1 : Nat))) none none).run Tryz.prog W = .ok (.slice y2 m c2) W) (h1 : 1 ≤ n) (h2 : n ≤ c) (hp : ∃ g o, y = some ⟨g, o, none⟩) : NewAt V b (.slice y2 m c2) := by
  rw [run_slice_l W 22 y n c ndsl_node.under .i64 ((1 : Nat) : Int) (by omega) (by omega), ndsl_node.size] at hy
  simp only [Result.andThen, sliced, Int.toNat_natCast] at hy
  injection hy with hy
  injection hy with hy
  refine newAt_of fun g o e => ?_
  rw [e] at hy
  split at hy
  · exact h g o n c (by rw [hy])
  · obtain ⟨g2, o2, rfl⟩ := hp
    simp only [Option.map_some, Option.some.injEq, Addr.add] at hy
    injection hy with hy
    exact hy ▸ h g2 o2 n c rfl
def AgreeAnsN (xo ta tb : List Nd) (w : World) (r : Ending) (w' : World) : Prop :=
  if all3 xo ta tb = true then ∃ ao c, r = .returned (.tuple #[.slice ao ((agreedL (valP xo []) (valP ta []) (valP tb [])).length - 1) c, .int .i64 0]) ∧ ((ao = none → c = 0) ∧ (agreedL (valP xo []) (valP ta []) (valP tb [])).length - 1 ≤ c) ∧ LayN w' ao ((agreedL (valP xo []) (valP ta []) (valP tb [])).drop 1) ∧ NewAt w' w.heap.size (.slice ao ((agreedL (valP xo []) (valP ta []) (valP tb [])).length - 1) c) ∧ Below w.heap.size w w'
  else r = .returned (.tuple #[.slice none 0 0, .int .i64 60]) ∧ Below w.heap.size w w'
set_option maxRecDepth 100000 in
set_option maxHeartbeats 6400000 in
theorem agreeAll_new (xo ta tb : List Nd) (ao aa ab : Option Addr) (co ca cb : Nat) (w : World) (he : NF.Env w) (lo : In w ao co xo) (la : In w aa ca ta) (lb : In w ab cb tb) :
    Calls Tryz.prog 8 #[.slice ao xo.length co, .slice aa ta.length ca, .slice ab tb.length cb] w (AgreeAnsN xo ta tb w) := by
  have CK := Lib.hid (allTrees_any xo ta tb ao aa ab co ca cb w he lo la lb)
  have HE := Lib.hid he
  obtain ⟨d, hd⟩ : ∃ d, all3 xo ta tb = d := ⟨_, rfl⟩
  unfold AgreeAnsN
  rw [hd] at CK ⊢
  cases d with
  | false =>
    obtain ⟨no, hno⟩ : ∃ n, xo.length = n := ⟨_, rfl⟩
    obtain ⟨na, hna⟩ : ∃ n, ta.length = n := ⟨_, rfl⟩
    obtain ⟨nb, hnb⟩ : ∃ n, tb.length = n := ⟨_, rfl⟩
    rw [hno, hna, hnb] at CK ⊢
    simp only [Bool.false_eq_true, if_false]
    clear he lo la lb hd hno hna hnb
    go_enter Tryz.func8, Tryz.ntmps8
    repeat (first | go_skip | go_guarded | go_step | go_upon)
    refine CK.out.mono ?_
    rintro r w1 ⟨rfl, b1⟩
    simp only []
    have B1 := Lib.hid b1
    clear b1
    repeat (first | go_skip | go_guarded | go_step | go_upon)
    go_ret2
    exact ⟨rfl, B1.out⟩
  | true =>
    obtain ⟨t1, t2, t3⟩ := all3_iff hd
    simp only [if_true]
    have CR : Hid (∀ W, Below w.heap.size w W → Calls Tryz.prog 14 #[.slice ao xo.length co, .slice aa ta.length ca, .slice ab tb.length cb] W fun r w' => ∃ b1 b2 b3 vo va vb, r = .returned (trV [] b1 b2 b3 vo va vb) ∧ TrAt w' [] (valP xo []) (valP ta []) (valP tb []) b1 b2 b3 vo va vb ∧ (NewAt w' W.heap.size vo ∧ NewAt w' W.heap.size va) ∧ Below W.heap.size W w') := Lib.hid (fun W hW => atRoot_new t1 t2 t3 ao aa ab co ca cb W (he.below hW) (lo.lay.below hW) (la.lay.below hW) (lb.lay.below hW) lo.cap la.cap lb.cap)
    have CI := Lib.hid (agreed_rootN t1 t2 t3)
    obtain ⟨no, hno⟩ : ∃ n, xo.length = n := ⟨_, rfl⟩
    obtain ⟨na, hna⟩ : ∃ n, ta.length = n := ⟨_, rfl⟩
    obtain ⟨nb, hnb⟩ : ∃ n, tb.length = n := ⟨_, rfl⟩
    rw [hno, hna, hnb] at CK CR ⊢
    obtain ⟨L, hL⟩ : ∃ L, agreedL (valP xo []) (valP ta []) (valP tb []) = L := ⟨_, rfl⟩
    have hL0 : L ≠ [] := by rw [← hL]; exact agreed_root xo ta tb
    rw [hL] at CI ⊢
    clear he lo la lb hd hno hna hnb hL t1 t2 t3
    go_enter Tryz.func8, Tryz.ntmps8
    repeat (first | go_skip | go_guarded | go_step | go_upon)
    refine CK.out.mono ?_
    rintro r w1 ⟨rfl, b1⟩
    simp only []
    have B1 := Lib.hid b1
    clear b1
    repeat (first | go_skip | go_guarded | go_step | go_upon)
    refine (CR.out _ B1.out).mono ?_
    rintro r w2 ⟨c1, c2, c3, vo, va, vb, rfl, ht, ⟨no, na⟩, b2⟩
    simp only []
    have B2 := Lib.hid (Below.trans B1.out (b2.mono B1.out.size))
    have C2 := Lib.hid (CI.out c1 c2 c3 vo va vb w2 (HE.out.below B2.out) ht w.heap.size B2.out.size (no.mono B1.out.size) (na.mono B1.out.size))
    clear b2 ht no na
    repeat (first | go_skip | go_guarded | go_step | go_upon)
    refine C2.out.mono ?_
    rintro r w3 ⟨y, c, rfl, hz, hl, b3, hy⟩
    simp only []
    have B3 := Lib.hid (Below.trans B2.out (b3.mono B2.out.size))
    have hL1 : 1 ≤ L.length := List.length_pos_iff.2 hL0
    obtain ⟨y2, c2', hrun, hlay, hc2, hz2⟩ := sl_from ndsl_node y L 1 c hL1 hz.2
    have HL2 := Lib.hid (hlay w3 hl)
    have HZ2 := Lib.hid (hz2 hz.1)
    have HC2 := Lib.hid hc2
    have HN2 := Lib.hid (hy.from w3 (hrun w3) hL1 hz.2 (by obtain ⟨g, o, e, _⟩ := hl hL1; exact ⟨g, o, e⟩))
    have hrun1 : ∀ W, (Instr.slice 22 (.slice y L.length c) (some (.int .i64 1)) none none).run Tryz.prog W = .ok (.slice y2 (L.length - 1) c2') W := hrun
    clear b3 hl hz hy hlay hz2 hc2 hrun
    repeat (first | go_skip | go_guarded | go_step | go_upon)
    go_ret2
    exact ⟨_, _, rfl, ⟨HZ2.out, HC2.out⟩, HL2.out, HN2.out, B3.out⟩
end RC
end Go.Proofs.YtmpmmebmhffaeaaGreatDoor
end
