/- Layer 9: the contract of the document's Decode. -/
import Derived.Test.YtiggdojppfblkaaGreatDoorMg3
import Derived.Test.YtiggdojppfblkaaGreatDoorMg2
import Derived.Test.YtiggdojppfblkaaGreatDoorArRdM
import Derived.Test.YtiggdojppfblkaaGreatDoorArCrc
namespace Go.Proofs.YtiggdojppfblkaaGreatDoor
open Go.RowKit Go.Lib Go.BigFrame
namespace AD
open OM TP TM TG TW TR AP AR FP

theorem crcD : RQ.CrcOf := fun s w h => HCr.rcrc_any s w h
theorem rowD {W W' : World} {b : Nat} {o : Obj} (h : W.heap[b]? = some o) (hb : Below W.heap.size W W') : W'.heap[b]? = some o :=
  (hb.block _ (Array.getElem?_eq_some_iff.1 h).1).trans h
theorem fresh_reader (w : World) (Q : ByteArray) (q : List UInt8) (hq : Q.data.toList = q) (hl : q.length ≤ 140737488355328) : RR.At w.heap.size (q, 0) (w.alloc (.cells #[.string Q, .int .i64 0, .int .i64 0] 74)) := by
  have h := heap_alloc_new w (.cells #[.string Q, .int .i64 0, .int .i64 0] 74)
  refine ⟨Q, 0, ⟨?_, ?_, ?_, ?_, ?_, ?_⟩, ?_, Nat.zero_le _, ?_⟩
  · rw [cell_of_row _ _ 0 _ _ _ h]; rfl
  · rw [cell_of_row _ _ 1 _ _ _ h]; rfl
  · rw [cell_of_row _ _ 2 _ _ _ h]; rfl
  · exact frozen_of_row _ _ 1 _ _ h
  · exact frozen_of_row _ _ 2 _ _ h
  · exact (Array.getElem?_eq_some_iff.1 h).1
  · exact hq
  · rw [Lib.size_eq, hq]; exact hl
theorem readR_fit (p : List UInt8) : ReadFit p.length (readR p).1 := by
  unfold readR
  simp only []
  by_cases hv : (rTxt 8 (p, 0)).1 = ver
  · rw [if_pos hv]
    have l1 := CR.txt_left 8 (p, 0)
    have l2 := CR.txt_left 64 (rTxt 8 (p, 0)).2
    have l3 := CR.num_left (rTxt 64 (rTxt 8 (p, 0)).2).2
    have l4 := CR.cnt_left 1000 7 (rNum (rTxt 64 (rTxt 8 (p, 0)).2).2).2
    have p1 := txt_fit 64 (rTxt 8 (p, 0)).2
    have s1 := num_fit (rTxt 64 (rTxt 8 (p, 0)).2).2
    have n1 := CR.cnt_most 1000 7 (rNum (rTxt 64 (rTxt 8 (p, 0)).2).2).2 (by decide)
    obtain ⟨f1, f2⟩ := nodes_fit (rCnt 1000 7 (rNum (rTxt 64 (rTxt 8 (p, 0)).2).2).2).1 (rCnt 1000 7 (rNum (rTxt 64 (rTxt 8 (p, 0)).2).2).2).2
    obtain ⟨g1, g2⟩ := CR.nodes_len (rCnt 1000 7 (rNum (rTxt 64 (rTxt 8 (p, 0)).2).2).2).1 (rCnt 1000 7 (rNum (rTxt 64 (rTxt 8 (p, 0)).2).2).2).2
    simp only [] at l1
    refine ⟨⟨?_, f2⟩, Nat.le_trans p1 l1, ?_, fun n hn => ?_, ?_⟩
    · unfold Fits
      simp only []
      omega
    · show (rNodes _ _).1.length ≤ 1000
      rw [g1]
      omega
    · have := f1 n hn
      omega
    · show (rNodes _ _).2.1.length ≤ 1000
      rw [g2]
      omega
  · rw [if_neg hv]
    exact zero_fit _
theorem node_data (r : Rd) : (rNode r).1.1.data.length ≤ r.1.length := by
  unfold rNode
  simp only []
  exact Nat.le_trans (txt_fit 64 _) (Nat.le_trans (CR.num_left _) (Nat.le_trans (CR.num_left _) (CR.txt_left 400 r)))
theorem nodes_data (k : Nat) (r : Rd) : ∀ n ∈ (rNodes k r).1, n.data.length ≤ r.1.length := by
  induction k with
  | zero => intro n hn; simp [rNodes] at hn
  | succ k ih =>
    intro n hn
    rw [(nodes_next k r).1] at hn
    rcases List.mem_append.1 hn with h | h
    · exact ih n h
    · rw [List.mem_singleton] at h
      rw [h]
      exact Nat.le_trans (node_data _) (CR.nodes_left k r)
theorem cell3f {W : World} {b : Nat} {a0 a1 a2 : Value} {t : TypeId} (h : W.heap[b]? = some (.cells #[a0, a1, a2] t (0, 0))) :
    W.cell? ⟨b, 0, none⟩ = some a0 ∧ W.cell? ⟨b, 1, none⟩ = some a1 ∧ W.cell? ⟨b, 2, none⟩ = some a2 ∧ ∀ j, W.frozen? ⟨b, j, none⟩ = false :=
  ⟨by rw [cell_of_row W b 0 _ _ _ h]; rfl, by rw [cell_of_row W b 1 _ _ _ h]; rfl, by rw [cell_of_row W b 2 _ _ _ h]; rfl, fun j => frozen_of_row W b j _ _ h⟩
def RInv (w : World) (B rb ab rs : Nat) (P4 : ByteArray) (s5 : Nat) (d6 : Rd) (n : Nat) (s : Value) (wr : World) : Prop :=
  ∃ (k : Nat) (a1 : Option Addr) (c1 : Nat) (a2 : Option Addr) (c2 : Nat), s = .int .i64 k ∧ k ≤ n ∧
    DIn w B rb ab rs #[.string P4, .int .i64 (s5 : Nat)] #[.string ⟨#[]⟩, .int .i64 0, .slice none 0 0, .slice none 0 0] (rNodes k d6).2.2 k k (rNodes k d6).1 (rNodes k d6).2.1 (.slice a1 k c1) (.slice a2 k c2) wr
set_option maxRecDepth 100000 in
set_option maxHeartbeats 12800000 in
theorem rdecode_any (l : List UInt8) (w : World) (hl : l.length ≤ 9223372036854775807) :
    Calls Tryz.prog 23 #[txt l] w (DecPost l w) := by
  obtain ⟨rs, hrs⟩ : ∃ rs, w.heap.size = rs := ⟨_, rfl⟩
  have HRS := Lib.hid hrs
  obtain ⟨w1, hw1⟩ : ∃ w1, w.alloc (.cells #[.string ⟨#[]⟩, .int .i64 0, .slice none 0 0, .slice none 0 0] 35) = w1 := ⟨_, rfl⟩
  have b1 : Below w.heap.size w w1 := by rw [← hw1]; exact (Below.refl _ _).alloc (Nat.le_refl _) _
  have r1 : w1.heap[rs]? = some (.cells #[.string ⟨#[]⟩, .int .i64 0, .slice none 0 0, .slice none 0 0] 35 (0, 0)) := by rw [← hw1, ← hrs]; exact heap_alloc_new w _
  have c1 := RQ.rone_any crcD l w1 hl
  have B1 := Lib.hid b1
  have R1 := Lib.hid r1
  obtain ⟨z, q, hz⟩ : ∃ z q, RP.oneL l = (z, q) := ⟨_, _, rfl⟩
  have HZ := Lib.hid hz
  unfold RQ.oneV RQ.txt at c1
  rw [hz] at c1
  simp only [] at c1
  unfold txt
  obtain ⟨S, hS⟩ : ∃ S : ByteArray, ⟨l.toArray⟩ = S := ⟨_, rfl⟩
  obtain ⟨Q, hQ⟩ : ∃ S : ByteArray, ⟨q.toArray⟩ = S := ⟨_, rfl⟩
  have HQ : Hid (Q.data.toList = q) := Lib.hid (by rw [← hQ])
  rw [hS, hQ] at c1
  rw [hS]
  have C1 := Lib.hid c1
  clear c1 hz hS hQ b1 r1
  by_cases hz0 : z = 0
  · subst hz0
    rw [show ((0 : Nat) : Int) = 0 from rfl] at C1
    have hql : q.length ≤ 1048576 := by
      have h1 : RP.nextL l = (0, q, []) := by
        rcases RP.one_cases l with ⟨q', h1, h2⟩ | ⟨e, h1⟩
        · rw [HZ.out] at h1
          obtain rfl := (Prod.mk.inj h1).2
          exact h2
        · rw [HZ.out] at h1
          exact absurd (Prod.mk.inj h1).1 (by omega)
      exact (RP.next_ok h1).2
    have HQl := Lib.hid hql
    clear hql
    go_enter Tryz.func23, Tryz.ntmps23
    repeat (first | (go_at_call 44; fail) | go_skip | go_guarded | go_step | go_upon)
    refine C1.out.mono ?_
    rintro r w2 ⟨rfl, hb2⟩
    simp only []
    have B2 := Lib.hid (B1.out.trans (hb2.mono B1.out.size))
    have R2 := Lib.hid (rowD R1.out hb2)
    clear hb2
    repeat (first | go_skip | go_guarded | go_step | go_upon)
    obtain ⟨rb, hrb⟩ : ∃ rb, w2.heap.size = rb := ⟨_, rfl⟩
    obtain ⟨W3, hW3⟩ : ∃ W, (w2.alloc (.cells #[.string Q, .int .i64 0, .int .i64 0] 74)).alloc (.cells #[.string ⟨#[]⟩, .int .i64 0, .slice none 0 0, .slice none 0 0] 35) = W := ⟨_, rfl⟩
    have h3 := fresh_reader w2 Q q HQ.out (by have := HQl.out; omega)
    have r3 := heap_alloc2_new w2 (.cells #[.string Q, .int .i64 0, .int .i64 0] 74) (.cells #[.string ⟨#[]⟩, .int .i64 0, .slice none 0 0, .slice none 0 0] 35)
    have hz3 : W3.heap.size = w2.heap.size + 2 := by rw [← hW3]; simp
    have b3 : Below w2.heap.size w2 W3 := by rw [← hW3]; exact ((Below.refl _ _).alloc (Nat.le_refl _) _).alloc (by simp) _
    have h3' := h3.out ((Out.refl (fun _ => False) (w2.alloc (.cells #[.string Q, .int .i64 0, .int .i64 0] 74))).alloc (.cells #[.string ⟨#[]⟩, .int .i64 0, .slice none 0 0, .slice none 0 0] 35)) (fun e => e)
    rw [hW3] at r3 h3'
    have hrsl : rs < w2.heap.size := (Array.getElem?_eq_some_iff.1 R2.out).1
    have I3 : Hid (DIn w W3.heap.size rb (rb + 1) rs #[.string ⟨#[]⟩, .int .i64 0] #[.string ⟨#[]⟩, .int .i64 0, .slice none 0 0, .slice none 0 0] (q, 0) 0 0 [] [] (.slice none 0 0) (.slice none 0 0) W3) := Lib.hid (by
      have e := HRS.out
      rw [← hrb]
      exact ⟨h3', r3, rowD R2.out b3, World.ownsRow_nil _ _ _ _, World.ownsRow_nil _ _ _ _, B2.out.trans (b3.mono B2.out.size), Nat.le_refl _, by omega, by omega, by omega, by omega, by omega, by omega, by omega, by omega, rfl⟩)
    rw [hrb]
    have HW3 := Lib.hid hW3
    have HAB : Hid (w.heap.size ≤ rb + 1 ∧ w.heap.size ≤ rb ∧ rs < rb) := Lib.hid (by have e := HRS.out; omega)
    obtain ⟨B, hB⟩ : ∃ B, W3.heap.size = B := ⟨_, rfl⟩
    rw [hB] at I3
    rw [hW3]
    clear h3 h3' r3 b3 hB hW3 hrb hz3 hrsl
    obtain ⟨ab, hab⟩ : ∃ ab, rb + 1 = ab := ⟨_, rfl⟩
    rw [hab] at I3 HAB ⊢
    clear hab
    have c3 := RR.rtext_all rb 8 (q, 0) W3 I3.out.rd
    obtain ⟨x3, hx3⟩ : ∃ x, rTxt (8 : Nat) (q, 0) = x := ⟨_, rfl⟩
    have HX3 := Lib.hid hx3
    rw [hx3] at c3
    clear hx3
    obtain ⟨v3, d3⟩ := x3
    obtain ⟨T, hT⟩ : ∃ T : ByteArray, ⟨v3.toArray⟩ = T := ⟨_, rfl⟩
    have hTd : T.data.toList = v3 := by rw [← hT]
    unfold RR.TPost at c3
    simp only [hT] at c3
    have C3 := Lib.hid c3
    have hTv := ver_eq hTd
    clear c3 hT hTd
    refine C3.out.mono ?_
    rintro r w3 ⟨rfl, ha3, hb3⟩
    simp only []
    have I4 := Lib.hid (I3.out.turn ha3 hb3)
    clear ha3 hb3
    by_cases hv : v3 = ver
    · rw [decide_eq_true hv] at hTv
      have HV := Lib.hid hv
      clear hv
      obtain ⟨p0, p1, p2, p3, pf⟩ := cell4 (show w3.heap[ab]? = some (.cells #[.string ⟨#[]⟩, .int .i64 0, .slice none 0 0, .slice none 0 0] 35 (0, 0)) from I4.out.row)
      have c4 := RR.rtext_all rb 64 d3 w3 I4.out.rd
      obtain ⟨x4, hx4⟩ : ∃ x, rTxt (64 : Nat) d3 = x := ⟨_, rfl⟩
      have HX4 := Lib.hid hx4
      rw [hx4] at c4
      clear hx4
      obtain ⟨v4, d4⟩ := x4
      obtain ⟨P4, hP4⟩ : ∃ T : ByteArray, ⟨v4.toArray⟩ = T := ⟨_, rfl⟩
      have HP4 := Lib.hid hP4
      unfold RR.TPost at c4
      simp only [hP4] at c4
      have C4 := Lib.hid c4
      clear c4 hP4
      repeat (first | (go_at_call 45; fail) | go_skip | go_guarded | go_step | go_upon)
      refine C4.out.mono ?_
      rintro r w4 ⟨rfl, ha, hb⟩
      simp only []
      have I5 := Lib.hid (I4.out.turn ha hb)
      clear ha hb p0 p1 p2 p3 pf
      obtain ⟨p0, p1, p2, p3, pf⟩ := cell4 (show w4.heap[ab]? = some (.cells #[.string ⟨#[]⟩, .int .i64 0, .slice none 0 0, .slice none 0 0] 35 (0, 0)) from I5.out.row)
      have I6 := Lib.hid (I5.out.pair (u := .string P4) HAB.out.1)
      obtain ⟨W5, hW5⟩ : ∃ W, w4.setCell ⟨ab, 0, none⟩ (.string P4) = W := ⟨_, rfl⟩
      rw [hW5] at I6
      have c5 := RR.rnum_all rb d4 W5 I6.out.rd
      obtain ⟨x5, hx5⟩ : ∃ x, rNum d4 = x := ⟨_, rfl⟩
      have HX5 := Lib.hid hx5
      rw [hx5] at c5
      clear hx5
      obtain ⟨s5, d5⟩ := x5
      have C5 := Lib.hid c5
      clear c5
      repeat (first | (go_at_call 46; fail) | go_skip | go_guarded | go_step | go_upon)
      refine C5.out.mono ?_
      rintro r w5 ⟨rfl, ha, hb⟩
      simp only []
      have I7 := Lib.hid (I6.out.turn ha hb)
      clear ha hb p0 p1 p2 p3 pf hW5
      obtain ⟨p0, p1, p2, p3, pf⟩ := cell4 (show w5.heap[ab]? = some (.cells #[.string P4, .int .i64 0, .slice none 0 0, .slice none 0 0] 35 (0, 0)) from I7.out.row)
      have I8 := Lib.hid (I7.out.serial (u := .int .i64 (s5 : Nat)) HAB.out.1)
      obtain ⟨W6, hW6⟩ : ∃ W, w5.setCell ⟨ab, 1, none⟩ (.int .i64 (s5 : Nat)) = W := ⟨_, rfl⟩
      rw [hW6] at I8
      have c6 := RR.rcount_all rb d5 W6 I8.out.rd
      obtain ⟨x6, hx6⟩ : ∃ x, rCnt 1000 7 d5 = x := ⟨_, rfl⟩
      have HX6 := Lib.hid hx6
      rw [hx6] at c6
      have hn6 := CR.cnt_most 1000 7 d5 (by decide)
      rw [hx6] at hn6
      clear hx6
      obtain ⟨n, d6⟩ := x6
      simp only [] at hn6
      have C6 := Lib.hid c6
      clear c6
      repeat (first | (go_at_call 47; fail) | go_skip | go_guarded | go_step | go_upon)
      refine C6.out.mono ?_
      rintro r w6 ⟨rfl, ha, hb⟩
      simp only []
      have I9 := Lib.hid (I8.out.turn ha hb)
      clear ha hb p0 p1 p2 p3 pf hW6
      obtain ⟨p0, p1, p2, p3, pf⟩ := cell4 (show w6.heap[ab]? = some (.cells #[.string P4, .int .i64 (s5 : Nat), .slice none 0 0, .slice none 0 0] 35 (0, 0)) from I9.out.row)
      repeat (first | go_skip | go_guarded | go_step | go_upon)
      go_loopw [9] (fun s9 wr => RInv w B rb ab rs P4 s5 d6 n s9 wr) (fun s9 _ => n - (Go.RowKit.intOf s9).toNat)
      case atStart => exact ⟨0, none, 0, none, 0, rfl, Nat.zero_le _, I9.out⟩
      case round =>
        obtain ⟨k, a1, c1, a2, c2, rfl, hk, hin⟩ := hrel
        have HIn := Lib.hid hin
        clear hin p0 p1 p2 p3 pf
        obtain ⟨sk, ak, hat, -, -, -⟩ := HIn.out.rd
        have k2 := hat.c2
        clear hat
        by_cases hgo : k < n ∧ (rNodes k d6).2.2.2 = 0
        · obtain ⟨hlt, hf0⟩ := hgo
          have hkz : (k : Int) < n := by omega
          rw [hf0] at k2
          obtain ⟨rk, hrk⟩ : ∃ r, (rNodes k d6).2.2 = r := ⟨_, rfl⟩
          obtain ⟨ts, hts⟩ : ∃ r, (rNodes k d6).1 = r := ⟨_, rfl⟩
          obtain ⟨us, hus⟩ : ∃ r, (rNodes k d6).2.1 = r := ⟨_, rfl⟩
          have IN0 := HIn.out
          rw [hrk, hts, hus] at IN0
          obtain ⟨y1, hy1⟩ : ∃ x, rTxt (400 : Nat) rk = x := ⟨_, rfl⟩
          have HY1 := Lib.hid hy1
          have cc1 := fun (W : World) (hW : RR.At rb rk W) => RR.rtext_all rb 400 rk W hW
          rw [hy1] at cc1
          clear hy1
          obtain ⟨v1', e1⟩ := y1
          obtain ⟨X1, hX1⟩ : ∃ T : ByteArray, ⟨v1'.toArray⟩ = T := ⟨_, rfl⟩
          have HX1' := Lib.hid hX1
          unfold RR.TPost at cc1
          simp only [hX1] at cc1
          clear hX1
          have CC1 := Lib.hid cc1
          clear cc1
          obtain ⟨y2, hy2⟩ : ∃ x, rNum e1 = x := ⟨_, rfl⟩
          have HY2 := Lib.hid hy2
          have cc2 := fun (W : World) (hW : RR.At rb e1 W) => RR.rnum_all rb e1 W hW
          rw [hy2] at cc2
          clear hy2
          obtain ⟨v2', e2⟩ := y2
          have CC2 := Lib.hid cc2
          clear cc2
          obtain ⟨y3, hy3⟩ : ∃ x, rNum e2 = x := ⟨_, rfl⟩
          have HY3 := Lib.hid hy3
          have cc3 := fun (W : World) (hW : RR.At rb e2 W) => RR.rnum_all rb e2 W hW
          rw [hy3] at cc3
          clear hy3
          obtain ⟨v3', e3⟩ := y3
          have CC3 := Lib.hid cc3
          clear cc3
          obtain ⟨y4, hy4⟩ : ∃ x, rTxt (64 : Nat) e3 = x := ⟨_, rfl⟩
          have HY4 := Lib.hid hy4
          have cc4 := fun (W : World) (hW : RR.At rb e3 W) => RR.rtext_all rb 64 e3 W hW
          rw [hy4] at cc4
          clear hy4
          obtain ⟨v4', e4⟩ := y4
          obtain ⟨X4, hX4⟩ : ∃ T : ByteArray, ⟨v4'.toArray⟩ = T := ⟨_, rfl⟩
          have HX4' := Lib.hid hX4
          unfold RR.TPost at cc4
          simp only [hX4] at cc4
          clear hX4
          have CC4 := Lib.hid cc4
          clear cc4
          obtain ⟨y5, hy5⟩ : ∃ x, rNum e4 = x := ⟨_, rfl⟩
          have HY5 := Lib.hid hy5
          have cc5 := fun (W : World) (hW : RR.At rb e4 W) => RR.rnum_all rb e4 W hW
          rw [hy5] at cc5
          clear hy5
          obtain ⟨v5', e5⟩ := y5
          have CC5 := Lib.hid cc5
          clear cc5
          obtain ⟨y6, hy6⟩ : ∃ x, rNum e5 = x := ⟨_, rfl⟩
          have HY6 := Lib.hid hy6
          have cc6 := fun (W : World) (hW : RR.At rb e5 W) => RR.rnum_all rb e5 W hW
          rw [hy6] at cc6
          clear hy6
          obtain ⟨v6', e6⟩ := y6
          have CC6 := Lib.hid cc6
          clear cc6
          obtain ⟨y7, hy7⟩ : ∃ x, rNum e6 = x := ⟨_, rfl⟩
          have HY7 := Lib.hid hy7
          have cc7 := fun (W : World) (hW : RR.At rb e6 W) => RR.rnum_all rb e6 W hW
          rw [hy7] at cc7
          clear hy7
          obtain ⟨v7', e7⟩ := y7
          have CC7 := Lib.hid cc7
          clear cc7
          have HNx : Hid (rNodes (k + 1) d6 = (ts ++ [⟨v1', v2', v4', v3'⟩], us ++ [⟨v5', v6', v7'⟩], e7)) := Lib.hid (by
            have hn : rNode rk = ((⟨v1', v2', v4', v3'⟩, ⟨v5', v6', v7'⟩), e7) := by
              unfold rNode
              simp only []
              rw [show rTxt 400 rk = (v1', e1) from HY1.out]
              simp only []
              rw [HY2.out]
              simp only []
              rw [HY3.out]
              simp only []
              rw [show rTxt 64 e3 = (v4', e4) from HY4.out]
              simp only []
              rw [HY5.out]
              simp only []
              rw [HY6.out]
              simp only []
              rw [HY7.out]
            rw [rNodes, hrk, hn, hts, hus])
          have HK1 : Hid (k ≤ 1000) := Lib.hid (by omega)
          have HT1 : Hid (txt v1' = .string X1) := Lib.hid (by unfold txt; rw [HX1'.out])
          have HT4 : Hid (txt v4' = .string X4) := Lib.hid (by unfold txt; rw [HX4'.out])
          obtain ⟨V0, hV0⟩ : ∃ W, (wr.alloc (.cells #[.string ⟨#[]⟩, .int .i64 0, .string ⟨#[]⟩, .int .i64 0] 25)).alloc (.cells #[.int .i64 0, .int .i64 0, .int .i64 0] 67) = W := ⟨_, rfl⟩
          have hx0 : V0.heap[wr.heap.size]? = some (.cells #[.string ⟨#[]⟩, .int .i64 0, .string ⟨#[]⟩, .int .i64 0] 25 (0, 0)) := by rw [← hV0]; exact heap_alloc2_old wr _ _
          have hm0 : V0.heap[wr.heap.size + 1]? = some (.cells #[.int .i64 0, .int .i64 0, .int .i64 0] 67 (0, 0)) := by rw [← hV0]; exact heap_alloc2_new wr _ _
          have b0 : Below wr.heap.size wr V0 := by rw [← hV0]; exact ((Below.refl _ _).alloc (Nat.le_refl _) _).alloc (by simp) _
          have J0 := Lib.hid (IN0.thenBelow b0)
          obtain ⟨bx, hbx⟩ : ∃ n, wr.heap.size = n := ⟨_, rfl⟩
          have HO : Hid (B ≤ bx ∧ rb < bx ∧ (∀ g, (Value.slice a1 k c1).ownBlock = some g → g < bx) ∧ (∀ g, (Value.slice a2 k c2).ownBlock = some g → g < bx)) := Lib.hid (by
            rw [← hbx]
            have h1 := IN0.big
            have h2 := IN0.rbB
            exact ⟨h1, by omega, fun g hg => (IN0.nds.lt g hg).2, fun g hg => (IN0.sms.lt g hg).2⟩)
          rw [hbx] at hx0 hm0
          have RX0 := Lib.hid hx0
          have RM0 := Lib.hid hm0
          have HV0 := Lib.hid hV0
          clear IN0 hrk hts hus hlt hf0 b0 hx0 hm0
          repeat (first | (go_at_call 45; fail) | go_skip | go_guarded | go_step | go_upon)
          refine (CC1.out _ J0.out.rd).mono ?_
          rintro r U1 ⟨rfl, hva, hvo⟩
          simp only []
          have K1 := Lib.hid (J0.out.turn hva hvo)
          have XK1 := Lib.hid (hvo.row RX0.out (fun e => by have := HO.out.2.1; omega))
          have MK1 := Lib.hid (hvo.row RM0.out (fun e => by have := HO.out.2.1; omega))
          clear hva hvo
          obtain ⟨n0, n1, n2, n3, nf⟩ := cell4 XK1.out
          have J1 := Lib.hid (K1.out.put (bx := bx) 0 (.string X1) (by have := HO.out.1; omega) (fun g hg => by have := HO.out.2.2.1 g hg; omega) (fun g hg => by have := HO.out.2.2.2 g hg; omega))
          obtain ⟨V1, hV⟩ : ∃ W, U1.setCell ⟨bx, 0, none⟩ (.string X1) = W := ⟨_, rfl⟩
          have RX1 : Hid (V1.heap[bx]? = some (.cells #[.string X1, .int .i64 0, .string ⟨#[]⟩, .int .i64 0] 25 (0, 0))) := Lib.hid (by rw [← hV]; exact (row_set XK1.out _).trans rfl)
          have RM1 : Hid (V1.heap[bx + 1]? = some (.cells #[.int .i64 0, .int .i64 0, .int .i64 0] 67 (0, 0))) := Lib.hid (by rw [← hV]; exact ((Out.refl (· = bx) U1).setCell (p := ⟨bx, 0, none⟩) (fun _ => rfl) _).row MK1.out (fun e => by omega))
          rw [hV] at J1
          repeat (first | (go_at_call 46; fail) | go_skip | go_guarded | go_step | go_upon)
          try rw [hV]
          clear n0 n1 n2 n3 nf hV
          refine (CC2.out _ J1.out.rd).mono ?_
          rintro r U2 ⟨rfl, hva, hvo⟩
          simp only []
          have K2 := Lib.hid (J1.out.turn hva hvo)
          have XK2 := Lib.hid (hvo.row RX1.out (fun e => by have := HO.out.2.1; omega))
          have MK2 := Lib.hid (hvo.row RM1.out (fun e => by have := HO.out.2.1; omega))
          clear hva hvo
          obtain ⟨n0, n1, n2, n3, nf⟩ := cell4 XK2.out
          have J2 := Lib.hid (K2.out.put (bx := bx) 1 (.int .i64 (v2' : Nat)) (by have := HO.out.1; omega) (fun g hg => by have := HO.out.2.2.1 g hg; omega) (fun g hg => by have := HO.out.2.2.2 g hg; omega))
          obtain ⟨V2, hV⟩ : ∃ W, U2.setCell ⟨bx, 1, none⟩ (.int .i64 (v2' : Nat)) = W := ⟨_, rfl⟩
          have RX2 : Hid (V2.heap[bx]? = some (.cells #[.string X1, .int .i64 (v2' : Nat), .string ⟨#[]⟩, .int .i64 0] 25 (0, 0))) := Lib.hid (by rw [← hV]; exact (row_set XK2.out _).trans rfl)
          have RM2 : Hid (V2.heap[bx + 1]? = some (.cells #[.int .i64 0, .int .i64 0, .int .i64 0] 67 (0, 0))) := Lib.hid (by rw [← hV]; exact ((Out.refl (· = bx) U2).setCell (p := ⟨bx, 1, none⟩) (fun _ => rfl) _).row MK2.out (fun e => by omega))
          rw [hV] at J2
          repeat (first | (go_at_call 46; fail) | go_skip | go_guarded | go_step | go_upon)
          try rw [hV]
          clear n0 n1 n2 n3 nf hV
          refine (CC3.out _ J2.out.rd).mono ?_
          rintro r U3 ⟨rfl, hva, hvo⟩
          simp only []
          have K3 := Lib.hid (J2.out.turn hva hvo)
          have XK3 := Lib.hid (hvo.row RX2.out (fun e => by have := HO.out.2.1; omega))
          have MK3 := Lib.hid (hvo.row RM2.out (fun e => by have := HO.out.2.1; omega))
          clear hva hvo
          obtain ⟨n0, n1, n2, n3, nf⟩ := cell4 XK3.out
          have J3 := Lib.hid (K3.out.put (bx := bx) 3 (.int .i64 (v3' : Nat)) (by have := HO.out.1; omega) (fun g hg => by have := HO.out.2.2.1 g hg; omega) (fun g hg => by have := HO.out.2.2.2 g hg; omega))
          obtain ⟨V3, hV⟩ : ∃ W, U3.setCell ⟨bx, 3, none⟩ (.int .i64 (v3' : Nat)) = W := ⟨_, rfl⟩
          have RX3 : Hid (V3.heap[bx]? = some (.cells #[.string X1, .int .i64 (v2' : Nat), .string ⟨#[]⟩, .int .i64 (v3' : Nat)] 25 (0, 0))) := Lib.hid (by rw [← hV]; exact (row_set XK3.out _).trans rfl)
          have RM3 : Hid (V3.heap[bx + 1]? = some (.cells #[.int .i64 0, .int .i64 0, .int .i64 0] 67 (0, 0))) := Lib.hid (by rw [← hV]; exact ((Out.refl (· = bx) U3).setCell (p := ⟨bx, 3, none⟩) (fun _ => rfl) _).row MK3.out (fun e => by omega))
          rw [hV] at J3
          repeat (first | (go_at_call 45; fail) | go_skip | go_guarded | go_step | go_upon)
          try rw [hV]
          clear n0 n1 n2 n3 nf hV
          refine (CC4.out _ J3.out.rd).mono ?_
          rintro r U4 ⟨rfl, hva, hvo⟩
          simp only []
          have K4 := Lib.hid (J3.out.turn hva hvo)
          have XK4 := Lib.hid (hvo.row RX3.out (fun e => by have := HO.out.2.1; omega))
          have MK4 := Lib.hid (hvo.row RM3.out (fun e => by have := HO.out.2.1; omega))
          clear hva hvo
          obtain ⟨n0, n1, n2, n3, nf⟩ := cell4 XK4.out
          have J4 := Lib.hid (K4.out.put (bx := bx) 2 (.string X4) (by have := HO.out.1; omega) (fun g hg => by have := HO.out.2.2.1 g hg; omega) (fun g hg => by have := HO.out.2.2.2 g hg; omega))
          obtain ⟨V4, hV⟩ : ∃ W, U4.setCell ⟨bx, 2, none⟩ (.string X4) = W := ⟨_, rfl⟩
          have RX4 : Hid (V4.heap[bx]? = some (.cells #[.string X1, .int .i64 (v2' : Nat), .string X4, .int .i64 (v3' : Nat)] 25 (0, 0))) := Lib.hid (by rw [← hV]; exact (row_set XK4.out _).trans rfl)
          have RM4 : Hid (V4.heap[bx + 1]? = some (.cells #[.int .i64 0, .int .i64 0, .int .i64 0] 67 (0, 0))) := Lib.hid (by rw [← hV]; exact ((Out.refl (· = bx) U4).setCell (p := ⟨bx, 2, none⟩) (fun _ => rfl) _).row MK4.out (fun e => by omega))
          rw [hV] at J4
          repeat (first | (go_at_call 46; fail) | go_skip | go_guarded | go_step | go_upon)
          try rw [hV]
          clear n0 n1 n2 n3 nf hV
          refine (CC5.out _ J4.out.rd).mono ?_
          rintro r U5 ⟨rfl, hva, hvo⟩
          simp only []
          have K5 := Lib.hid (J4.out.turn hva hvo)
          have XK5 := Lib.hid (hvo.row RX4.out (fun e => by have := HO.out.2.1; omega))
          have MK5 := Lib.hid (hvo.row RM4.out (fun e => by have := HO.out.2.1; omega))
          clear hva hvo
          obtain ⟨n0, n1, n2, nf⟩ := cell3f MK5.out
          have J5 := Lib.hid (K5.out.put (bx := bx + 1) 0 (.int .i64 (v5' : Nat)) (by have := HO.out.1; omega) (fun g hg => by have := HO.out.2.2.1 g hg; omega) (fun g hg => by have := HO.out.2.2.2 g hg; omega))
          obtain ⟨V5, hV⟩ : ∃ W, U5.setCell ⟨bx + 1, 0, none⟩ (.int .i64 (v5' : Nat)) = W := ⟨_, rfl⟩
          have RM5 : Hid (V5.heap[bx + 1]? = some (.cells #[.int .i64 (v5' : Nat), .int .i64 0, .int .i64 0] 67 (0, 0))) := Lib.hid (by rw [← hV]; exact (row_set MK5.out _).trans rfl)
          have RX5 : Hid (V5.heap[bx]? = some (.cells #[.string X1, .int .i64 (v2' : Nat), .string X4, .int .i64 (v3' : Nat)] 25 (0, 0))) := Lib.hid (by rw [← hV]; exact ((Out.refl (· = bx + 1) U5).setCell (p := ⟨bx + 1, 0, none⟩) (fun _ => rfl) _).row XK5.out (fun e => by omega))
          rw [hV] at J5
          repeat (first | (go_at_call 46; fail) | go_skip | go_guarded | go_step | go_upon)
          try rw [hV]
          clear n0 n1 n2 nf hV
          refine (CC6.out _ J5.out.rd).mono ?_
          rintro r U6 ⟨rfl, hva, hvo⟩
          simp only []
          have K6 := Lib.hid (J5.out.turn hva hvo)
          have XK6 := Lib.hid (hvo.row RX5.out (fun e => by have := HO.out.2.1; omega))
          have MK6 := Lib.hid (hvo.row RM5.out (fun e => by have := HO.out.2.1; omega))
          clear hva hvo
          obtain ⟨n0, n1, n2, nf⟩ := cell3f MK6.out
          have J6 := Lib.hid (K6.out.put (bx := bx + 1) 1 (.int .i64 (v6' : Nat)) (by have := HO.out.1; omega) (fun g hg => by have := HO.out.2.2.1 g hg; omega) (fun g hg => by have := HO.out.2.2.2 g hg; omega))
          obtain ⟨V6, hV⟩ : ∃ W, U6.setCell ⟨bx + 1, 1, none⟩ (.int .i64 (v6' : Nat)) = W := ⟨_, rfl⟩
          have RM6 : Hid (V6.heap[bx + 1]? = some (.cells #[.int .i64 (v5' : Nat), .int .i64 (v6' : Nat), .int .i64 0] 67 (0, 0))) := Lib.hid (by rw [← hV]; exact (row_set MK6.out _).trans rfl)
          have RX6 : Hid (V6.heap[bx]? = some (.cells #[.string X1, .int .i64 (v2' : Nat), .string X4, .int .i64 (v3' : Nat)] 25 (0, 0))) := Lib.hid (by rw [← hV]; exact ((Out.refl (· = bx + 1) U6).setCell (p := ⟨bx + 1, 1, none⟩) (fun _ => rfl) _).row XK6.out (fun e => by omega))
          rw [hV] at J6
          repeat (first | (go_at_call 46; fail) | go_skip | go_guarded | go_step | go_upon)
          try rw [hV]
          clear n0 n1 n2 nf hV
          refine (CC7.out _ J6.out.rd).mono ?_
          rintro r U7 ⟨rfl, hva, hvo⟩
          simp only []
          have K7 := Lib.hid (J6.out.turn hva hvo)
          have XK7 := Lib.hid (hvo.row RX6.out (fun e => by have := HO.out.2.1; omega))
          have MK7 := Lib.hid (hvo.row RM6.out (fun e => by have := HO.out.2.1; omega))
          clear hva hvo
          obtain ⟨n0, n1, n2, nf⟩ := cell3f MK7.out
          have J7 := Lib.hid (K7.out.put (bx := bx + 1) 2 (.int .i64 (v7' : Nat)) (by have := HO.out.1; omega) (fun g hg => by have := HO.out.2.2.1 g hg; omega) (fun g hg => by have := HO.out.2.2.2 g hg; omega))
          obtain ⟨V7, hV⟩ : ∃ W, U7.setCell ⟨bx + 1, 2, none⟩ (.int .i64 (v7' : Nat)) = W := ⟨_, rfl⟩
          have RM7 : Hid (V7.heap[bx + 1]? = some (.cells #[.int .i64 (v5' : Nat), .int .i64 (v6' : Nat), .int .i64 (v7' : Nat)] 67 (0, 0))) := Lib.hid (by rw [← hV]; exact (row_set MK7.out _).trans rfl)
          have RX7 : Hid (V7.heap[bx]? = some (.cells #[.string X1, .int .i64 (v2' : Nat), .string X4, .int .i64 (v3' : Nat)] 25 (0, 0))) := Lib.hid (by rw [← hV]; exact ((Out.refl (· = bx + 1) U7).setCell (p := ⟨bx + 1, 2, none⟩) (fun _ => rfl) _).row XK7.out (fun e => by omega))
          rw [hV] at J7
          obtain ⟨ap, cp, V8, hrun, hown, hout⟩ := node_step (n := ⟨v1', v2', v4', v3'⟩) J7.out.nds HT1.out HT4.out HK1.out J7.out.big
          have HRun := Lib.hid hrun
          have p2V : V7.cell? ⟨ab, 2, none⟩ = some (.slice a1 k c1) := by rw [cell_of_row _ _ 2 _ _ _ J7.out.row]; rfl
          obtain ⟨l0, l1, l2, l3, lf⟩ := cell4 RX7.out
          have hrow8 := hout.row J7.out.row (fun e => by have := (J7.out.nds.lt _ e).1; have := J7.out.abB; omega)
          have p2W : V8.cell? ⟨ab, 2, none⟩ = some (.slice a1 k c1) := by rw [cell_of_row _ _ 2 _ _ _ hrow8]; rfl
          have pfW : V8.frozen? ⟨ab, 2, none⟩ = false := frozen_of_row V8 ab 2 _ _ hrow8
          have J8 := Lib.hid (J7.out.node hown hout)
          have RM8 := Lib.hid (hout.row RM7.out (fun e => by have := HO.out.2.2.1 _ e; omega))
          obtain ⟨V9, hV9⟩ : ∃ W, V8.setCell ⟨ab, 2, none⟩ (.slice ap (k + 1) cp) = W := ⟨_, rfl⟩
          rw [hV9] at J8
          have RM9 : Hid (V9.heap[bx + 1]? = some (.cells #[.int .i64 (v5' : Nat), .int .i64 (v6' : Nat), .int .i64 (v7' : Nat)] 67 (0, 0))) := Lib.hid (by rw [← hV9]; exact ((Out.refl (· = ab) V8).setCell (p := ⟨ab, 2, none⟩) (fun _ => rfl) _).row RM8.out (fun e => by have := J7.out.abB; have := HO.out.1; omega))
          clear hown hout hrow8
          obtain ⟨aq, cq, V10, hrun2, hown, hout⟩ := stamp_step (s := ⟨v5', v6', v7'⟩) J8.out.sms HK1.out J8.out.big
          have p3V : V9.cell? ⟨ab, 3, none⟩ = some (.slice a2 k c2) := by rw [cell_of_row _ _ 3 _ _ _ J8.out.row]; rfl
          obtain ⟨o0, o1, o2, of⟩ := cell3f RM9.out
          have hrow10 := hout.row J8.out.row (fun e => by have := (J8.out.sms.lt _ e).1; have := J8.out.abB; omega)
          have p3W : V10.cell? ⟨ab, 3, none⟩ = some (.slice a2 k c2) := by rw [cell_of_row _ _ 3 _ _ _ hrow10]; rfl
          have pf3W : V10.frozen? ⟨ab, 3, none⟩ = false := frozen_of_row V10 ab 3 _ _ hrow10
          have J9 := Lib.hid (J8.out.stamp hown hout)
          clear hown hout hrow10
          repeat (first | (at_builtin; first | (refine wpList_append_run _ rfl _ _ _ _ rfl _ _ rfl rfl _ _ hrun ?_) | (refine wpList_append_run _ rfl _ _ _ _ rfl _ _ rfl rfl _ _ hrun2 ?_)) | go_skip | go_guarded | go_step | go_upon)
          go_round
          case rel =>
            refine ⟨k + 1, ap, cp, aq, cq, by go_num, by omega, ?_⟩
            rw [HNx.out]
            exact J9.out
          case measure => simp [Go.RowKit.intOf]; omega
        · have HRd : Hid (readR q = (⟨v4, (s5 : Nat), (rNodes n d6).1, (rNodes n d6).2.1⟩, decide ((rNodes n d6).2.2.2 = 0 ∧ (rNodes n d6).2.2.1 = []))) := Lib.hid (by
            unfold readR
            simp only []
            rw [show rTxt 8 (q, 0) = (v3, d3) from HX3.out]
            simp only []
            rw [if_pos HV.out, show rTxt 64 d3 = (v4, d4) from HX4.out]
            simp only []
            rw [HX5.out]
            simp only []
            rw [HX6.out])
          have HBad : Hid (((rNodes n d6).2.2.2 = 0 ∧ (rNodes n d6).2.2.1 = []) → rightA ⟨v4, (s5 : Nat), (rNodes n d6).1, (rNodes n d6).2.1⟩ = true → decL l = (⟨v4, (s5 : Nat), (rNodes n d6).1, (rNodes n d6).2.1⟩, 0)) := Lib.hid (fun h1 h2 => by
            rw [← dec_same]
            unfold decR
            rw [HZ.out]
            simp only []
            rw [HRd.out, if_pos ⟨trivial, decide_eq_true h1, h2⟩])
          have HBd : Hid (¬ (((rNodes n d6).2.2.2 = 0 ∧ (rNodes n d6).2.2.1 = []) ∧ rightA ⟨v4, (s5 : Nat), (rNodes n d6).1, (rNodes n d6).2.1⟩ = true) → decL l = (zeroA, 90)) := Lib.hid (fun h1 => by
            rw [← dec_same]
            unfold decR
            rw [HZ.out]
            simp only []
            rw [HRd.out, if_neg (fun e => h1 ⟨of_decide_eq_true e.2.1, e.2.2⟩)])
          have ce := fun (W : World) (hW : RR.At rb (rNodes k d6).2.2 W) => RR.rend_all rb (rNodes k d6).2.2 W hW
          obtain ⟨z, hz⟩ : ∃ z, CR.endR (rNodes k d6).2.2 = z := ⟨_, rfl⟩
          rw [hz] at ce
          have CE := Lib.hid ce
          have hend := CR.end_ok (rNodes k d6).2.2
          rw [hz] at hend
          have HEn := Lib.hid hend
          clear hend hz ce
          by_cases hlt : k < n
          · have hf : (rNodes k d6).2.2.2 ≠ 0 := fun e => hgo ⟨hlt, e⟩
            have hkz : (k : Int) < n := by omega
            have hfz : ((((rNodes k d6).2.2.2 : Nat) : Int) == 0) = false := by simpa using hf
            have hz0 : ((z : Int) != 0) = true := by
              have : z ≠ 0 := fun e => hf (HEn.out.1 e).1
              simpa using this
            have HVd := Lib.hid (HBd.out (fun e => by
              have := nodes_add k d6 hf (n - k)
              rw [show k + (n - k) = n by omega] at this
              exact this e.1.1))
            obtain ⟨fk, hfk⟩ : ∃ f, (rNodes k d6).2.2.2 = f := ⟨_, rfl⟩
            rw [hfk] at k2 hfz
            clear hgo hf hlt hfk
            repeat (first | (go_at_call 48; fail) | go_skip | go_guarded | go_step | go_upon)
            refine (CE.out _ HIn.out.rd).mono ?_
            rintro r w9 ⟨rfl, ho, hat⟩
            simp only []
            have J := Lib.hid (HIn.out.turn hat (ho.mono (fun _ _ h => h.elim)))
            clear ho hat k2
            obtain ⟨q0, q1, q2, q3, qf⟩ := cell4 J.out.res
            repeat (first | go_skip | go_guarded | go_step | go_upon)
            refine bodyPost_ret (v := .tuple #[.agg #[.string ⟨#[]⟩, .int .i64 0, .slice none 0 0, .slice none 0 0], .int .i64 90]) ?_ rfl ?_
            · rw [results_cell_tmp rfl]
              go_simp
            · have b := J.out.below
              have e := HRS.out
              rw [e] at b
              refine DecPost.bad HVd.out ?_
              rw [e]
              first
                | exact b
                | exact ((((b.setCell (p := ⟨rs, 0, none⟩) (Nat.le_refl _) _).setCell (p := ⟨rs, 1, none⟩) (Nat.le_refl _) _).setCell (p := ⟨rs, 2, none⟩) (Nat.le_refl _) _).setCell (p := ⟨rs, 3, none⟩) (Nat.le_refl _) _)
          · have hkn : k = n := by omega
            subst hkn
            have hkz : ¬ (k : Int) < k := by omega
            clear hgo hlt
            repeat (first | (go_at_call 48; fail) | go_skip | go_guarded | go_step | go_upon)
            refine (CE.out _ HIn.out.rd).mono ?_
            rintro r w9 ⟨rfl, ho, hat⟩
            simp only []
            have J := Lib.hid (HIn.out.turn hat (ho.mono (fun _ _ h => h.elim)))
            clear ho hat k2
            by_cases hz : z = 0
            · have hz0 : ((z : Int) != 0) = false := by simpa using hz
              have HFl := Lib.hid (HEn.out.1 hz)
              have hfit := readR_fit q
              rw [HRd.out] at hfit
              have hdat := nodes_data k d6
              obtain ⟨a, ha⟩ : ∃ a : Ar, (⟨v4, (s5 : Nat), (rNodes k d6).1, (rNodes k d6).2.1⟩ : Ar) = a := ⟨_, rfl⟩
              have hln := CR.nodes_len k d6
              have HTree : Hid (a.tree = (rNodes k d6).1 ∧ a.stamps = (rNodes k d6).2.1 ∧ a.pair = v4 ∧ a.serial = (s5 : Nat) ∧ a.tree.length = k ∧ a.stamps.length = k) := Lib.hid (by rw [← ha]; exact ⟨rfl, rfl, rfl, rfl, hln.1, hln.2⟩)
              rw [ha] at HBad HBd hfit
              simp only [] at hfit
              have hd6 : d6.1.length ≤ q.length := by
                have l3 := CR.txt_left 8 (q, 0)
                rw [show rTxt 8 (q, 0) = (v3, d3) from HX3.out] at l3
                have l4 := CR.txt_left 64 d3
                rw [show rTxt 64 d3 = (v4, d4) from HX4.out] at l4
                have l5 := CR.num_left d4
                rw [HX5.out] at l5
                have l6 := CR.cnt_left 1000 7 d5
                rw [HX6.out] at l6
                simp only [] at l3 l4 l5 l6
                omega
              have hql2 := HQl.out
              have hsm : Small a.tree := fun x hx => ⟨by have := hfit.path x hx; omega, by rw [HTree.out.1] at hx; have := hdat x hx; omega⟩
              obtain ⟨ao, ca, e1, hw1'⟩ := wide_own (ts := a.tree) (by rw [HTree.out.1]; exact J.out.nds) HTree.out.2.2.2.2.1.symm (fun x hx => by have := hfit.path x hx; unfold maxLen; omega)
              obtain ⟨so, sc, e2, hw2'⟩ := widem_own (us := a.stamps) (by rw [HTree.out.2.1]; exact J.out.sms) HTree.out.2.2.2.2.2.symm
              injection e1 with e1 e8 e3
              injection e2 with e2 e9 e4
              clear e8 e9
              subst e1 e3 e2 e4
              have hAt : ArAt w9 a a1 c1 a2 := ⟨hw1', hw2', by have := hfit.pair; unfold maxLen; omega, hfit.fit⟩
              have cC := rcheck9_any a a1 c1 a2 c2 w9 hAt hsm
              unfold arVal txt at cC
              rw [HTree.out.2.2.1, HP4.out, HTree.out.2.2.2.1, HTree.out.2.2.2.2.1, HTree.out.2.2.2.2.2] at cC
              have HCk : Hid (checkA a = if rightA a = true then 0 else 90) := Lib.hid rfl
              rw [HCk.out] at cC
              obtain ⟨p0, p1, p2, p3, pf⟩ := cell4 (show w9.heap[ab]? = some (.cells #[.string P4, .int .i64 (s5 : Nat), .slice a1 k c1, .slice a2 k c2] 35 (0, 0)) from J.out.row)
              clear hfit hdat ha hln hd6 hql2 hsm hw1' hw2' hAt
              cases hrA : rightA a with
              | false =>
                rw [hrA] at cC
                simp only [Bool.false_eq_true, if_false] at cC
                have HVd := Lib.hid (HBd.out (fun e => by rw [hrA] at e; exact absurd e.2 (by simp)))
                have CC := Lib.hid cC
                clear cC hrA hz
                repeat (first | (go_at_call 18; fail) | go_skip | go_guarded | go_step | go_upon)
                refine CC.out.mono ?_
                rintro r w10 ⟨rfl, hb⟩
                simp only []
                have J2 := Lib.hid (J.out.thenBelow hb)
                clear hb p0 p1 p2 p3 pf
                obtain ⟨q0, q1, q2, q3, qf⟩ := cell4 J2.out.res
                repeat (first | go_skip | go_guarded | go_step | go_upon)
                refine bodyPost_ret (v := .tuple #[.agg #[.string ⟨#[]⟩, .int .i64 0, .slice none 0 0, .slice none 0 0], .int .i64 90]) ?_ rfl ?_
                · rw [results_cell_tmp rfl]
                  go_simp
                · have b := J2.out.below
                  have e := HRS.out
                  rw [e] at b
                  refine DecPost.bad HVd.out ?_
                  rw [e]
                  first
                    | exact b
                    | exact ((((b.setCell (p := ⟨rs, 0, none⟩) (Nat.le_refl _) _).setCell (p := ⟨rs, 1, none⟩) (Nat.le_refl _) _).setCell (p := ⟨rs, 2, none⟩) (Nat.le_refl _) _).setCell (p := ⟨rs, 3, none⟩) (Nat.le_refl _) _)
              | true =>
                rw [hrA] at cC
                simp only [if_true] at cC
                have HVd := Lib.hid (HBad.out HFl.out hrA)
                have CC := Lib.hid cC
                clear cC hrA hz
                repeat (first | (go_at_call 18; fail) | go_skip | go_guarded | go_step | go_upon)
                refine CC.out.mono ?_
                rintro r w10 ⟨rfl, hb⟩
                simp only []
                have J2 := Lib.hid (J.out.thenBelow hb)
                clear hb p0 p1 p2 p3 pf
                obtain ⟨p0, p1, p2, p3, pf⟩ := cell4 (show w10.heap[ab]? = some (.cells #[.string P4, .int .i64 (s5 : Nat), .slice a1 k c1, .slice a2 k c2] 35 (0, 0)) from J2.out.row)
                obtain ⟨q0, q1, q2, q3, qf⟩ := cell4 J2.out.res
                repeat (first | go_skip | go_guarded | go_step | go_upon)
                refine bodyPost_ret (v := .tuple #[.agg #[.string P4, .int .i64 (s5 : Nat), .slice a1 k c1, .slice a2 k c2], .int .i64 0]) ?_ rfl ?_
                · rw [results_cell_tmp rfl]
                  go_simp
                · have e := HRS.out
                  have hfin := J2.out.fin (by omega) ((((Out.refl (· = rs) w10).setCell (p := ⟨rs, 0, none⟩) (fun _ => rfl) (.string P4)).setCell (p := ⟨rs, 1, none⟩) (fun _ => rfl) (.int .i64 (s5 : Nat))).setCell (p := ⟨rs, 2, none⟩) (fun _ => rfl) (.slice a1 k c1) |>.setCell (p := ⟨rs, 3, none⟩) (fun _ => rfl) (.slice a2 k c2))
                  refine ⟨.slice a1 k c1, .slice a2 k c2, ?_, ?_, ?_, ?_⟩
                  · rw [HVd.out]
                    simp only []
                    unfold txt
                    rw [HTree.out.2.2.1, HP4.out, HTree.out.2.2.2.1]
                    rfl
                  · rw [HVd.out]
                    simp only []
                    rw [HTree.out.2.2.2.2.1, HTree.out.1]
                    exact hfin.1
                  · rw [HVd.out]
                    simp only []
                    rw [HTree.out.2.2.2.2.2, HTree.out.2.1]
                    exact hfin.2.1
                  · exact hfin.2.2
            · have hz0 : ((z : Int) != 0) = true := by simpa using hz
              have HVd := Lib.hid (HBd.out (fun e => hz (HEn.out.2 e.1)))
              clear hz
              obtain ⟨q0, q1, q2, q3, qf⟩ := cell4 J.out.res
              repeat (first | go_skip | go_guarded | go_step | go_upon)
              refine bodyPost_ret (v := .tuple #[.agg #[.string ⟨#[]⟩, .int .i64 0, .slice none 0 0, .slice none 0 0], .int .i64 90]) ?_ rfl ?_
              · rw [results_cell_tmp rfl]
                go_simp
              · have b := J.out.below
                have e := HRS.out
                rw [e] at b
                refine DecPost.bad HVd.out ?_
                rw [e]
                first
                  | exact b
                  | exact ((((b.setCell (p := ⟨rs, 0, none⟩) (Nat.le_refl _) _).setCell (p := ⟨rs, 1, none⟩) (Nat.le_refl _) _).setCell (p := ⟨rs, 2, none⟩) (Nat.le_refl _) _).setCell (p := ⟨rs, 3, none⟩) (Nat.le_refl _) _)
    · rw [decide_eq_false hv] at hTv
      have HV : Hid (decL l = (zeroA, 90)) := Lib.hid (by
        rw [← dec_same]
        unfold decR
        rw [HZ.out]
        have : (readR q).2 = false := by
          unfold readR
          simp only []
          rw [show rTxt 8 (q, 0) = (v3, d3) from HX3.out, if_neg hv]
        rw [if_neg (fun e => by rw [this] at e; exact absurd e.2.1 (by simp))])
      clear hv
      obtain ⟨q0, q1, q2, q3, qf⟩ := cell4 I4.out.res
      repeat (first | go_skip | go_guarded | go_step | go_upon)
      refine bodyPost_ret (v := .tuple #[.agg #[.string ⟨#[]⟩, .int .i64 0, .slice none 0 0, .slice none 0 0], .int .i64 90]) ?_ rfl ?_
      · rw [results_cell_tmp rfl]
        go_simp
      · have b := I4.out.below
        have e := HRS.out
        rw [e] at b
        refine DecPost.bad HV.out ?_
        rw [e]
        first
          | exact b
          | exact ((((b.setCell (p := ⟨rs, 0, none⟩) (Nat.le_refl _) _).setCell (p := ⟨rs, 1, none⟩) (Nat.le_refl _) _).setCell (p := ⟨rs, 2, none⟩) (Nat.le_refl _) _).setCell (p := ⟨rs, 3, none⟩) (Nat.le_refl _) _)
  · have hz1 : ((z : Int) != 0) = true := by simpa using hz0
    have HD : Hid (decL l = (zeroA, 90)) := Lib.hid (dec_bad (by rw [HZ.out]; exact hz0))
    clear hz0
    go_enter Tryz.func23, Tryz.ntmps23
    repeat (first | (go_at_call 44; fail) | go_skip | go_guarded | go_step | go_upon)
    refine C1.out.mono ?_
    rintro r w2 ⟨rfl, hb2⟩
    simp only []
    have B2 := Lib.hid (B1.out.trans (hb2.mono B1.out.size))
    have R2 := Lib.hid (rowD R1.out hb2)
    clear hb2
    obtain ⟨q0, q1, q2, q3, qf⟩ := cell4 R2.out
    repeat (first | go_skip | go_guarded | go_step | go_upon)
    refine bodyPost_ret (v := .tuple #[.agg #[.string ⟨#[]⟩, .int .i64 0, .slice none 0 0, .slice none 0 0], .int .i64 90]) ?_ rfl ?_
    · rw [results_cell_tmp rfl]
      go_simp
    · have b := B2.out
      have e := HRS.out
      rw [e] at b
      refine DecPost.bad HD.out ?_
      rw [e]
      first
        | exact b
        | exact ((((b.setCell (p := ⟨rs, 0, none⟩) (Nat.le_refl _) _).setCell (p := ⟨rs, 1, none⟩) (Nat.le_refl _) _).setCell (p := ⟨rs, 2, none⟩) (Nat.le_refl _) _).setCell (p := ⟨rs, 3, none⟩) (Nat.le_refl _) _)
end AD
end Go.Proofs.YtiggdojppfblkaaGreatDoor
