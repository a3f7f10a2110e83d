/- Layer 9: the contract of the program's Decode. -/
import Derived.Test.YtfkaackhikbbkaaGreatDoorArRead
import Derived.Test.YtfkaackhikbbkaaGreatDoorArEnc
namespace Go.Proofs.YtfkaackhikbbkaaGreatDoor
open Go.RowKit Go.Lib Go.BigFrame
namespace AD
open OM TP TM TG TW TR AP AR FP

theorem num_fit (r : Rd) : (rNum r).1 < 2 ^ 63 := by
  unfold rNum
  by_cases h1 : r.2 = 0
  · rw [if_neg (by simp [h1])]
    by_cases h2 : (CP.rd 0 0 r.1).2.2 = 0
    · rw [if_neg (by simp [h2])]
      exact (CR.rd_fits (l := r.1) (x := (CP.rd 0 0 r.1).1) (wd := (CP.rd 0 0 r.1).2.1) (e := (CP.rd 0 0 r.1).2.2) rfl).2.1
    · rw [if_pos h2]
      show 0 < 2 ^ 63
      decide
  · rw [if_pos h1]
    show 0 < 2 ^ 63
    decide
theorem txt_fit (most : Int) (r : Rd) : (rTxt most r).1.length ≤ r.1.length := by
  unfold rTxt
  by_cases h1 : r.2 = 0
  · rw [if_neg (by simp [h1])]
    by_cases h2 : (CP.cnt r.1 most 1).2.2 = 0
    · rw [if_neg (by simp [h2])]
      simp only [List.length_take, List.length_drop]
      omega
    · rw [if_pos h2]
      exact Nat.zero_le _
  · rw [if_pos h1]
    exact Nat.zero_le _
structure NodeFit (m : Nat) (n : Nd) (s : Sm) : Prop where
  path : n.path.length ≤ m
  stamp : FitS s
theorem node_fit (r : Rd) : NodeFit r.1.length (rNode r).1.1 (rNode r).1.2 := by
  refine ⟨txt_fit 400 r, ?_, ?_, ?_⟩
  · have := num_fit (rTxt 64 (rNum (rNum (rTxt 400 r).2).2).2).2
    unfold Fits rNode
    simp only []
    omega
  · have := num_fit (rNum (rTxt 64 (rNum (rNum (rTxt 400 r).2).2).2).2).2
    unfold Fits rNode
    simp only []
    omega
  · have := num_fit (rNum (rNum (rTxt 64 (rNum (rNum (rTxt 400 r).2).2).2).2).2).2
    unfold Fits rNode
    simp only []
    omega
theorem nodes_fit : ∀ (k : Nat) (r : Rd), (∀ n ∈ (rNodes k r).1, n.path.length ≤ r.1.length) ∧ ∀ s ∈ (rNodes k r).2.1, FitS s
  | 0, r => ⟨fun n hn => by simp [rNodes] at hn, fun s hs => by simp [rNodes] at hs⟩
  | k + 1, r => by
    obtain ⟨h1, h2⟩ := nodes_fit k r
    have hl := CR.nodes_left k r
    obtain ⟨f1, f2⟩ := node_fit (rNodes k r).2.2
    rw [rNodes]
    refine ⟨fun n hn => ?_, fun s hs => ?_⟩
    · rcases List.mem_append.1 hn with h | h
      · exact h1 n h
      · rw [List.mem_singleton] at h
        rw [h]
        exact Nat.le_trans f1 hl
    · rcases List.mem_append.1 hs with h | h
      · exact h2 s h
      · rw [List.mem_singleton] at h
        rw [h]
        exact f2
structure ReadFit (m : Nat) (a : Ar) : Prop where
  fit : FitA a
  pair : a.pair.length ≤ m
  tree : a.tree.length ≤ 1000
  path : ∀ n ∈ a.tree, n.path.length ≤ m
  stamps : a.stamps.length ≤ 1000
theorem zero_fit (m : Nat) : ReadFit m zeroA := ⟨⟨(by decide : (0 : Int) < 9223372036854775808), fun s hs => by simp [zeroA] at hs⟩, Nat.zero_le _, Nat.zero_le _, fun n hn => by simp [zeroA] at hn, Nat.zero_le _⟩
theorem read_fit (p : List UInt8) : ReadFit p.length (readA p).1 := by
  unfold readA
  simp only []
  by_cases hv : (rTxt 8 (p, 0)).1 = ver
  · rw [if_pos hv]
    have l1 := CR.txt_left 8 (p, 0)
    have l2 := CR.txt_left 64 (rTxt 8 (p, 0)).2
    have l3 := CR.num_left (rTxt 64 (rTxt 8 (p, 0)).2).2
    have l4 := CR.cnt_left 1000 8 (rNum (rTxt 64 (rTxt 8 (p, 0)).2).2).2
    have p1 := txt_fit 64 (rTxt 8 (p, 0)).2
    have s1 := num_fit (rTxt 64 (rTxt 8 (p, 0)).2).2
    have n1 := CR.cnt_most 1000 8 (rNum (rTxt 64 (rTxt 8 (p, 0)).2).2).2 (by decide)
    obtain ⟨f1, f2⟩ := nodes_fit (rCnt 1000 8 (rNum (rTxt 64 (rTxt 8 (p, 0)).2).2).2).1 (rCnt 1000 8 (rNum (rTxt 64 (rTxt 8 (p, 0)).2).2).2).2
    obtain ⟨g1, g2⟩ := CR.nodes_len (rCnt 1000 8 (rNum (rTxt 64 (rTxt 8 (p, 0)).2).2).2).1 (rCnt 1000 8 (rNum (rTxt 64 (rTxt 8 (p, 0)).2).2).2).2
    simp only [] at l1
    refine ⟨⟨?_, f2⟩, Nat.le_trans p1 l1, ?_, fun n hn => ?_, ?_⟩
    · unfold Fits
      simp only []
      omega
    · show (rNodes _ _).1.length ≤ 1000
      rw [g1]
      omega
    · have := f1 n hn
      omega
    · show (rNodes _ _).2.1.length ≤ 1000
      rw [g2]
      omega
  · rw [if_neg hv]
    exact zero_fit _
theorem wide_own {w : World} {B n : Nat} {v : Value} {ts : List Nd} (h : w.ownsRow B 25 4 v n (nodesC ts)) (hn : n = ts.length) (hp : ∀ x ∈ ts, x.path.length ≤ maxLen) : ∃ ao ca, v = .slice ao ts.length ca ∧ Wide w ao ca ts := by
  subst hn
  obtain ⟨ao, ca, hv, hl⟩ := lay_own h
  subst hv
  rcases h.2 with ⟨e, h0⟩ | ⟨g, cap, cur, e, hg, hrow, hnc, hcm, _⟩
  · injection e with e1 e2 e3
    exact ⟨ao, ca, rfl, ⟨hl, fun _ => e3, by omega, hp, by unfold maxLen; omega⟩⟩
  · injection e with e1 e2 e3
    subst e3
    exact ⟨ao, ca, rfl, ⟨hl, fun e0 => by (rw [e1] at e0; cases e0), hnc, hp, by omega⟩⟩
theorem widem_own {w : World} {B n : Nat} {v : Value} {us : List Sm} (h : w.ownsRow B 67 3 v n (smsC us)) (hn : n = us.length) : ∃ ao ca, v = .slice ao us.length ca ∧ WideM w ao us := by
  subst hn
  obtain ⟨ao, ca, hv, hl⟩ := laym_own h
  subst hv
  exact ⟨ao, ca, rfl, hl, owns_len h⟩
theorem kinds_no {W : World} {b s n g : Nat} {e t : TypeId} {v : Value} {x : List Value} {cs : Array Value} {fz : Nat × Nat} (h : W.ownsRow b e s v n x) (hr : W.heap[g]? = some (.cells cs t fz)) (hne : t ≠ e) (hg : v.ownBlock = some g) : False := by
  obtain ⟨c, f, h'⟩ := owns_kind h g hg
  rw [hr] at h'
  injection h' with h'
  injection h' with _ e2
  exact hne e2
def DecPost (l : List UInt8) (w : World) (r : Ending) (w' : World) : Prop :=
  ∃ vt vs, r = .returned (.tuple #[.agg #[txt (decL l).1.pair, .int .i64 (decL l).1.serial, vt, vs], .int .i64 ((decL l).2 : Nat)]) ∧ w'.ownsRow w.heap.size 25 4 vt (decL l).1.tree.length (nodesC (decL l).1.tree) ∧ w'.ownsRow w.heap.size 67 3 vs (decL l).1.stamps.length (smsC (decL l).1.stamps) ∧ Below w.heap.size w w'
theorem DecPost.bad {l : List UInt8} {w w' : World} (h : decL l = (zeroA, 90)) (hb : Below w.heap.size w w') : DecPost l w (.returned (.tuple #[.agg #[.string ⟨#[]⟩, .int .i64 0, .slice none 0 0, .slice none 0 0], .int .i64 90])) w' :=
  ⟨.slice none 0 0, .slice none 0 0, by rw [h]; rfl, by rw [h]; exact World.ownsRow_nil _ _ _ _, by rw [h]; exact World.ownsRow_nil _ _ _ _, hb⟩
set_option maxRecDepth 100000 in
set_option maxHeartbeats 6400000 in
theorem decode_any (l : List UInt8) (w : World) (he : Env w) (hl : l.length ≤ 9223372036854775807) :
    Calls Tryz.prog 21 #[txt l] w (DecPost l w) := by
  obtain ⟨rs, hrs⟩ : ∃ rs, w.heap.size = rs := ⟨_, rfl⟩
  have HRS := Lib.hid hrs
  obtain ⟨w1, hw1⟩ : ∃ w1, w.alloc (.cells #[.string ⟨#[]⟩, .int .i64 0, .slice none 0 0, .slice none 0 0] 35) = w1 := ⟨_, rfl⟩
  have b1 : Below w.heap.size w w1 := by rw [← hw1]; exact (Below.refl _ _).alloc (Nat.le_refl _) _
  have r1 : w1.heap[rs]? = some (.cells #[.string ⟨#[]⟩, .int .i64 0, .slice none 0 0, .slice none 0 0] 35 (0, 0)) := by rw [← hw1, ← hrs]; exact heap_alloc_new w _
  have c1 := RF.one_any l w1 (he.below b1).hc hl
  have HE := Lib.hid he
  have B1 := Lib.hid b1
  have R1 := Lib.hid r1
  have hlt1 : rs < w1.heap.size := (Array.getElem?_eq_some_iff.1 r1).1
  obtain ⟨z, q, hz⟩ : ∃ z q, RP.oneL l = (z, q) := ⟨_, _, rfl⟩
  have HZ := Lib.hid hz
  unfold RQ.oneV RQ.txt at c1
  rw [hz] at c1
  simp only [] at c1
  unfold txt
  obtain ⟨S, hS⟩ : ∃ S : ByteArray, ⟨l.toArray⟩ = S := ⟨_, rfl⟩
  obtain ⟨Q, hQ⟩ : ∃ S : ByteArray, ⟨q.toArray⟩ = S := ⟨_, rfl⟩
  have HQ := Lib.hid hQ
  rw [hS, hQ] at c1
  rw [hS]
  have C1 := Lib.hid c1
  have HLT1 := Lib.hid hlt1
  clear c1 b1 r1 hz hS hQ he hlt1
  go_enter Tryz.func21, Tryz.ntmps21
  repeat (first | (go_at_call 41; fail) | go_skip | go_guarded | go_step | go_upon)
  refine C1.out.mono ?_
  rintro r w2 ⟨rfl, hb2⟩
  simp only []
  have R2 := Lib.hid ((hb2.block _ HLT1.out).trans R1.out)
  have B2 := Lib.hid (B1.out.trans (hb2.mono B1.out.size))
  have HLT2 := Lib.hid (Nat.lt_of_lt_of_le HLT1.out hb2.size)
  clear hb2
  by_cases hz0 : z = 0
  · subst hz0
    have hql : q.length ≤ 1048576 := by
      have h1 : RP.nextL l = (0, q, []) := by
        rcases RP.one_cases l with ⟨q', h1, h2⟩ | ⟨e, h1⟩
        · rw [HZ.out] at h1
          obtain rfl := (Prod.mk.inj h1).2
          exact h2
        · rw [HZ.out] at h1
          exact absurd (Prod.mk.inj h1).1 (by omega)
      exact (RP.next_ok h1).2
    have HFit := Lib.hid (read_fit q)
    have hmx : ∀ m, m ≤ q.length → m ≤ maxLen := fun m hm => by unfold maxLen; omega
    have HMx := Lib.hid hmx
    have c3 := read_any q Q w2 (by rw [← HQ.out]) (by unfold maxLen; omega)
    have HD : Hid (decL l = if (readA q).2 = true ∧ rightA (readA q).1 = true then ((readA q).1, 0) else (zeroA, 90)) := Lib.hid (by unfold decL; rw [HZ.out]; simp)
    obtain ⟨a, ok, hra⟩ : ∃ a ok, readA q = (a, ok) := ⟨_, _, rfl⟩
    rw [hra] at c3 HFit HD
    simp only [] at c3 HFit HD
    obtain ⟨P, hP⟩ : ∃ S : ByteArray, ⟨a.pair.toArray⟩ = S := ⟨_, rfl⟩
    have HP := Lib.hid hP
    unfold ReadPost txt at c3
    rw [hP] at c3
    have C3 := Lib.hid c3
    clear hql hmx c3 hra hP
    repeat (first | (go_at_call 42; fail) | go_skip | go_guarded | go_step | go_upon)
    refine C3.out.mono ?_
    rintro r w3 ⟨vt, vs, rfl, ho1, ho2, hb3⟩
    simp only []
    obtain ⟨ao, ca, hvt, hwt⟩ := wide_own ho1 rfl (fun x hx => HMx.out _ (HFit.out.path x hx))
    obtain ⟨so, sc, hvs, hws⟩ := widem_own ho2 rfl
    subst hvt
    subst hvs
    have hAt : ArAt w3 a ao ca so := ⟨hwt, hws, HMx.out _ HFit.out.pair, HFit.out.fit⟩
    have R3 := Lib.hid ((hb3.block _ HLT2.out).trans R2.out)
    have B3 := Lib.hid (B2.out.trans (hb3.mono B2.out.size))
    have HLT3 := Lib.hid (Nat.lt_of_lt_of_le HLT2.out hb3.size)
    obtain ⟨w4, hw4⟩ : ∃ w4, w3.alloc (.cells #[.string P, .int .i64 a.serial, .slice ao a.tree.length ca, .slice so a.stamps.length sc] 35) = w4 := ⟨_, rfl⟩
    have b4 : Below w3.heap.size w3 w4 := by rw [← hw4]; exact (Below.refl _ _).alloc (Nat.le_refl _) _
    have r4 : w4.heap[w3.heap.size]? = some (.cells #[.string P, .int .i64 a.serial, .slice ao a.tree.length ca, .slice so a.stamps.length sc] 35 (0, 0)) := by rw [← hw4]; exact heap_alloc_new w3 _
    have B4 := Lib.hid (B3.out.trans (b4.mono B3.out.size))
    have R4 := Lib.hid ((b4.block _ HLT3.out).trans R3.out)
    have RA4 := Lib.hid r4
    have O1 := Lib.hid (owns_base (owns_below ho1 b4) w.heap.size (by have := B2.out.size; omega))
    have O2 := Lib.hid (owns_base (owns_below ho2 b4) w.heap.size (by have := B2.out.size; omega))
    have c5 := right_any a ao ca so sc w4 (HE.out.below B4.out).nf (hAt.below b4)
    have hne : w3.heap.size ≠ rs := by have := HLT3.out; omega
    have HNE := Lib.hid hne
    unfold arVal txt at c5
    rw [HP.out] at c5
    obtain ⟨bR, hbR⟩ : ∃ b, rightA a = b := ⟨_, rfl⟩
    rw [hbR] at c5 HD
    have C5 := Lib.hid c5
    have HW4 := Lib.hid hw4
    have HLT4 := Lib.hid (Nat.lt_of_lt_of_le HLT3.out b4.size)
    have HLA4 := Lib.hid ((Array.getElem?_eq_some_iff.1 r4).1)
    clear ho1 ho2 hb3 hwt hws hAt b4 r4 c5 hbR hne
    cases ok with
    | false =>
      have HV : Hid (decL l = (zeroA, 90)) := Lib.hid (by rw [HD.out]; simp)
      obtain ⟨q0, q1, q2, q3, qf⟩ := cell4 R4.out
      repeat (first | go_skip | go_guarded | go_step | go_upon)
      refine bodyPost_ret (v := .tuple #[.agg #[.string ⟨#[]⟩, .int .i64 0, .slice none 0 0, .slice none 0 0], .int .i64 90]) ?_ rfl ?_
      · rw [results_cell_tmp rfl]
        go_simp
      · have b := B4.out
        have e := HRS.out
        rw [e] at b
        refine DecPost.bad HV.out ?_
        rw [e]
        first
          | exact b
          | exact ((((b.setCell (p := ⟨rs, 0, none⟩) (Nat.le_refl _) _).setCell (p := ⟨rs, 1, none⟩) (Nat.le_refl _) _).setCell (p := ⟨rs, 2, none⟩) (Nat.le_refl _) _).setCell (p := ⟨rs, 3, none⟩) (Nat.le_refl _) _)
    | true =>
      have p0 : w4.cell? ⟨w3.heap.size, 0, none⟩ = some (.string P) := by rw [cell_of_row _ _ 0 _ _ _ RA4.out]; rfl
      have p1 : w4.cell? ⟨w3.heap.size, 1, none⟩ = some (.int .i64 a.serial) := by rw [cell_of_row _ _ 1 _ _ _ RA4.out]; rfl
      have p2 : w4.cell? ⟨w3.heap.size, 2, none⟩ = some (.slice ao a.tree.length ca) := by rw [cell_of_row _ _ 2 _ _ _ RA4.out]; rfl
      have p3 : w4.cell? ⟨w3.heap.size, 3, none⟩ = some (.slice so a.stamps.length sc) := by rw [cell_of_row _ _ 3 _ _ _ RA4.out]; rfl
      repeat (first | (go_at_call 34; fail) | go_skip | go_guarded | go_step | go_upon)
      try rw [HW4.out]
      refine C5.out.mono ?_
      rintro r w5 ⟨rfl, hb5⟩
      simp only []
      have R5 := Lib.hid ((hb5.block _ HLT4.out).trans R4.out)
      have RA5 := Lib.hid ((hb5.block _ HLA4.out).trans RA4.out)
      have B5 := Lib.hid (B4.out.trans (hb5.mono B4.out.size))
      have P1 := Lib.hid (owns_below O1.out hb5)
      have P2 := Lib.hid (owns_below O2.out hb5)
      clear hb5 p0 p1 p2 p3
      obtain ⟨q0, q1, q2, q3, qf⟩ := cell4 R5.out
      cases bR with
      | false =>
        have HV : Hid (decL l = (zeroA, 90)) := Lib.hid (by rw [HD.out]; simp)
        repeat (first | go_skip | go_guarded | go_step | go_upon)
        refine bodyPost_ret (v := .tuple #[.agg #[.string ⟨#[]⟩, .int .i64 0, .slice none 0 0, .slice none 0 0], .int .i64 90]) ?_ rfl ?_
        · rw [results_cell_tmp rfl]
          go_simp
        · have b := B5.out
          have e := HRS.out
          rw [e] at b
          refine DecPost.bad HV.out ?_
          rw [e]
          first
            | exact b
            | exact ((((b.setCell (p := ⟨rs, 0, none⟩) (Nat.le_refl _) _).setCell (p := ⟨rs, 1, none⟩) (Nat.le_refl _) _).setCell (p := ⟨rs, 2, none⟩) (Nat.le_refl _) _).setCell (p := ⟨rs, 3, none⟩) (Nat.le_refl _) _)
      | true =>
        have HV : Hid (decL l = (a, 0)) := Lib.hid (by rw [HD.out]; simp)
        obtain ⟨p0, p1, p2, p3, pf⟩ := cell4 RA5.out
        repeat (first | go_skip | go_guarded | go_step | go_upon)
        refine bodyPost_ret (v := .tuple #[.agg #[.string P, .int .i64 a.serial, .slice ao a.tree.length ca, .slice so a.stamps.length sc], .int .i64 0]) ?_ rfl ?_
        · rw [results_cell_tmp rfl]
          go_simp
        · have e := HRS.out
          have hO : ∀ W, Out (· = rs) w5 W → W.ownsRow w.heap.size 25 4 (.slice ao a.tree.length ca) a.tree.length (nodesC a.tree) ∧ W.ownsRow w.heap.size 67 3 (.slice so a.stamps.length sc) a.stamps.length (smsC a.stamps) ∧ Below w.heap.size w W := fun W hW => by
            refine ⟨hW.owns P1.out (fun g hg eg => kinds_no P1.out R5.out (by decide) (eg ▸ hg)), hW.owns P2.out (fun g hg eg => kinds_no P2.out R5.out (by decide) (eg ▸ hg)), ?_⟩
            exact ((Out.of_below B5.out).then hW (fun j hj e2 => by omega)).below (fun j hj _ hn => by omega) (Nat.le_refl _)
          have hfin := hO _ ((((Out.refl (· = rs) w5).setCell (p := ⟨rs, 0, none⟩) (fun _ => rfl) (.string P)).setCell (p := ⟨rs, 1, none⟩) (fun _ => rfl) (.int .i64 a.serial)).setCell (p := ⟨rs, 2, none⟩) (fun _ => rfl) (.slice ao a.tree.length ca) |>.setCell (p := ⟨rs, 3, none⟩) (fun _ => rfl) (.slice so a.stamps.length sc))
          refine ⟨.slice ao a.tree.length ca, .slice so a.stamps.length sc, ?_, ?_, ?_, ?_⟩
          · rw [HV.out]
            simp only []
            unfold txt
            rw [HP.out]
            rfl
          · rw [HV.out]
            exact hfin.1
          · rw [HV.out]
            exact hfin.2.1
          · exact hfin.2.2
  · have HV : Hid (decL l = (zeroA, 90)) := Lib.hid (dec_bad (by rw [HZ.out]; exact hz0))
    have hzb : ((z : Int) != 0) = true := by simp; omega
    have hzc : ¬ (z : Int) = 0 := by omega
    obtain ⟨q0, q1, q2, q3, qf⟩ := cell4 R2.out
    repeat (first | go_skip | go_guarded | go_step | go_upon)
    refine bodyPost_ret (v := .tuple #[.agg #[.string ⟨#[]⟩, .int .i64 0, .slice none 0 0, .slice none 0 0], .int .i64 90]) ?_ rfl ?_
    · rw [results_cell_tmp rfl]
      go_simp
    · have b := B2.out
      have e := HRS.out
      rw [e] at b
      refine DecPost.bad HV.out ?_
      rw [e]
      first
        | exact b
        | exact ((((b.setCell (p := ⟨rs, 0, none⟩) (Nat.le_refl _) _).setCell (p := ⟨rs, 1, none⟩) (Nat.le_refl _) _).setCell (p := ⟨rs, 2, none⟩) (Nat.le_refl _) _).setCell (p := ⟨rs, 3, none⟩) (Nat.le_refl _) _)
end AD
end Go.Proofs.YtfkaackhikbbkaaGreatDoor
