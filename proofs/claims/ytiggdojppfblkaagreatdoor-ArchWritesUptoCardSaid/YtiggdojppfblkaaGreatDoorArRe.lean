/- Layer 9: the contracts of the document's Num, Text over lists, Encode. -/
import Derived.Test.YtiggdojppfblkaaGreatDoorMg3
import Derived.Test.YtiggdojppfblkaaGreatDoorMg2
import Derived.Test.YtiggdojppfblkaaGreatDoorArArch
import Derived.Test.YtiggdojppfblkaaGreatDoorArCref
import Derived.Test.YtiggdojppfblkaaGreatDoorArRecN
namespace Go.Proofs.YtiggdojppfblkaaGreatDoor
open Go.RowKit Go.Lib Go.BigFrame
namespace AR
open OM TP TM TG TW AP TR CP CR AW

theorem crc_of9 : RQ.CrcOf := fun s w h => HCr.rcrc_any s w h
theorem str_is {l : List UInt8} {t : ByteArray} (h : t.data.toList = l) : t = ⟨l.toArray⟩ := by rw [← h]
theorem rnumS_any (n : Int) (w : World) (h : n < 2 ^ 63) : Calls Tryz.prog 39 #[.int .i64 n] w fun r w' => r = .returned (.string ⟨(numS n).toArray⟩) ∧ Below w.heap.size w w' := by
  have h2 : Calls Tryz.prog 39 #[.int .i64 n] w (NumPost (numS n) w) := by
    unfold numS
    by_cases h0 : n < 0
    · rw [if_pos h0]
      exact CX.rnum_neg n w h0
    · rw [if_neg h0]
      obtain ⟨m, rfl⟩ : ∃ m : Nat, n = m := ⟨n.toNat, by omega⟩
      exact CX.rnum_nat m w (by omega)
  refine h2.mono ?_
  rintro r w' ⟨t, rfl, ht, hb⟩
  exact ⟨by rw [str_is ht], hb⟩
theorem text_len (l : List UInt8) (h : l.length < 2 ^ 63) : (textS l).length ≤ 9 + l.length := by
  unfold textS
  rw [List.length_append]
  have := nm_len9 (n := l.length) h
  omega
theorem num_len (n : Int) (h : n < 2 ^ 63) : (numS n).length ≤ 9 := by
  unfold numS
  split
  · simp
  · exact nm_len9 (by omega)
theorem rtextB_any (s : ByteArray) (w : World) (h : (nm s.size).length + s.size ≤ maxLen) : Calls Tryz.prog 38 #[.string s] w (NumPost (textS s.data.toList) w) := by
  have hs : s.size < 2 ^ 63 := by unfold maxLen at h; omega
  have cN := CX.rnum_nat s.size w hs
  unfold maxLen at h
  go_enter Tryz.func38, Tryz.ntmps38
  go_wp2_with fail
  refine cN.mono ?_
  rintro e w1 ⟨t, rfl, ht, hb⟩
  have Ht := Lib.hid ht
  have hts : t.size + s.size ≤ 9223372036854775807 := by rw [Lib.size_eq t, ht]; omega
  clear ht h
  go_wp2
  go_ret
  exact ⟨_, rfl, by unfold textS; rw [← Lib.size_eq, ← Ht.out]; simp [ByteArray.data_append], hb⟩
theorem rtextS_any (l : List UInt8) (w : World) (h : l.length ≤ 4611686018427387904) : Calls Tryz.prog 38 #[.string ⟨l.toArray⟩] w fun r w' => r = .returned (.string ⟨(textS l).toArray⟩) ∧ Below w.heap.size w w' := by
  obtain ⟨s, hs⟩ : ∃ s : ByteArray, ⟨l.toArray⟩ = s := ⟨_, rfl⟩
  have hd : s.data.toList = l := by rw [← hs]
  have hz : s.size = l.length := by rw [Lib.size_eq, hd]
  have hl9 := nm_len9 (n := s.size) (by omega)
  rw [hs]
  refine (rtextB_any s w (by unfold maxLen; omega)).mono ?_
  rintro r w' ⟨t, rfl, ht, hb⟩
  rw [hd] at ht
  exact ⟨by rw [str_is ht], hb⟩
theorem box_cells {W : World} {b : Nat} {a0 a1 a2 a3 : Value} {t : TypeId} (h : W.heap[b]? = some (.cells #[a0, a1, a2, a3] t (0, 0))) :
    W.cell? ⟨b, 0, none⟩ = some a0 ∧ W.cell? ⟨b, 1, none⟩ = some a1 ∧ W.cell? ⟨b, 2, none⟩ = some a2 ∧ W.cell? ⟨b, 3, none⟩ = some a3 :=
  ⟨by rw [cell_of_row W b 0 _ _ _ h]; rfl, by rw [cell_of_row W b 1 _ _ _ h]; rfl, by rw [cell_of_row W b 2 _ _ _ h]; rfl, by rw [cell_of_row W b 3 _ _ _ h]; rfl⟩
theorem box_cells3 {W : World} {b : Nat} {a0 a1 a2 : Value} {t : TypeId} (h : W.heap[b]? = some (.cells #[a0, a1, a2] t (0, 0))) :
    W.cell? ⟨b, 0, none⟩ = some a0 ∧ W.cell? ⟨b, 1, none⟩ = some a1 ∧ W.cell? ⟨b, 2, none⟩ = some a2 :=
  ⟨by rw [cell_of_row W b 0 _ _ _ h]; rfl, by rw [cell_of_row W b 1 _ _ _ h]; rfl, by rw [cell_of_row W b 2 _ _ _ h]; rfl⟩
theorem row_kept {W W' : World} {b : Nat} {o : Obj} (h : W.heap[b]? = some o) (hb : Below W.heap.size W W') : W'.heap[b]? = some o :=
  (hb.block _ (Array.getElem?_eq_some_iff.1 h).1).trans h
theorem two_new (W : World) (o1 o2 : Obj) : ((W.alloc o1).alloc o2).drew.heap[W.heap.size]? = some o1 ∧ ((W.alloc o1).alloc o2).drew.heap[W.heap.size + 1]? = some o2 ∧ Below W.heap.size W ((W.alloc o1).alloc o2).drew :=
  ⟨heap_alloc2_old W o1 o2, heap_alloc2_new W o1 o2, (((Below.refl _ _).alloc (Nat.le_refl _) o1).alloc (by simp) o2).drew⟩
/-- Ahead of round k: the text so far. -/
def EInv (a : Ar) (m : Nat) (w6 : World) (s5 s4 : Value) (wr : World) : Prop :=
  ∃ (k : Nat) (S : ByteArray), s5 = .int .i64 k ∧ s4 = .string S ∧ k ≤ m ∧ S.data.toList = headS a ++ nodesS (a.tree.take k) (a.stamps.take k) ∧ Below w6.heap.size w6 wr
set_option maxRecDepth 100000 in
set_option maxHeartbeats 12800000 in
theorem rencode_any (a : Ar) (ao : Option Addr) (ca : Nat) (so : Option Addr) (sc : Nat) (w : World) (h : ArAt w a ao ca so) (hsm : Small a.tree) :
    Calls Tryz.prog 16 #[arVal a ao ca so sc] w fun r w' => r = .returned (.tuple #[txt (encL a).1, .int .i64 ((encL a).2 : Nat)]) ∧ Below w.heap.size w w' := by
  have CK : Hid (∀ W, Below w.heap.size w W → Calls Tryz.prog 18 #[arVal a ao ca so sc] W fun r w' => r = .returned (.int .i64 (checkA a : Nat)) ∧ Below W.heap.size W w') := Lib.hid (fun W hW => rcheck9_any a ao ca so sc W (h.below hW) hsm)
  have HLT := Lib.hid h.tree.lay
  have HLM := Lib.hid h.stamps.lay
  have HFit := Lib.hid h.fit
  unfold arVal txt at CK ⊢
  obtain ⟨P, hP⟩ : ∃ P : ByteArray, ⟨a.pair.toArray⟩ = P := ⟨_, rfl⟩
  obtain ⟨n, hn⟩ : ∃ n, a.tree.length = n := ⟨_, rfl⟩
  obtain ⟨m, hm⟩ : ∃ n, a.stamps.length = n := ⟨_, rfl⟩
  obtain ⟨s, hs⟩ : ∃ n, a.serial = n := ⟨_, rfl⟩
  obtain ⟨w1, hw1⟩ : ∃ w1, w.alloc (.cells #[.string P, .int .i64 s, .slice ao n ca, .slice so m sc] 35) = w1 := ⟨_, rfl⟩
  have b1 : Below w.heap.size w w1 := by rw [← hw1]; exact (Below.refl _ _).alloc (Nat.le_refl _) _
  have r1 : w1.heap[w.heap.size]? = some (.cells #[.string P, .int .i64 s, .slice ao n ca, .slice so m sc] 35 (0, 0)) := by rw [← hw1]; exact heap_alloc_new w _
  obtain ⟨x0, x1, x2, x3⟩ := box4 w (.string P) (.int .i64 s) (.slice ao n ca) (.slice so m sc) 35
  rw [hw1] at x0 x1 x2 x3
  have B1 := Lib.hid b1
  have R1 := Lib.hid r1
  have hlt1 : w.heap.size < w1.heap.size := by rw [← hw1]; simp
  rw [hP, hn, hm, hs] at CK
  rw [hP, hn, hm, hs]
  cases hr : rightA a with
  | false =>
    have HV : Hid (encL a = ([], 90)) := Lib.hid (by unfold encL; rw [hr]; rfl)
    have e9 : checkA a = 90 := by unfold checkA; rw [hr]; rfl
    rw [e9] at CK
    clear hP hn hm hs hr h hsm b1 r1 e9
    go_enter Tryz.func16, Tryz.ntmps16
    repeat (first | (go_at_call 18; refine (CK.out _ B1.out).mono ?_; rintro r w2 ⟨rfl, hb⟩; simp only []; have B2 := Lib.hid (Below.trans B1.out (hb.mono B1.out.size)); clear hb) | go_skip | go_guarded | go_step | go_upon)
    go_ret2
    exact ⟨by rw [HV.out]; rfl, B2.out⟩
  | true =>
    have hR := (right_iff a).1 hr
    have HR := Lib.hid hR
    have HV : Hid (encL a = (RP.packL (payL a), 0)) := Lib.hid (by unfold encL; rw [hr]; rfl)
    have e9 : checkA a = 0 := by unfold checkA; rw [hr]; rfl
    rw [e9] at CK
    have hpl := hR.pairL
    have hser := hR.serial
    have hfs := HFit.out.serial
    unfold Fits at hfs
    have hn1 := hR.tree.len
    have hCut := fun k => nodes_cut hR HFit.out k
    have C1 : Hid (∀ W, Calls Tryz.prog 38 #[.string ⟨#[104, 97, 119, 115, 101, 114, 32, 49]⟩] W fun r w' => r = .returned (.string ⟨(textS ver).toArray⟩) ∧ Below W.heap.size W w') := Lib.hid (fun W => rtextS_any ver W (by decide))
    have C2 : Hid (∀ W, Calls Tryz.prog 38 #[.string P] W fun r w' => r = .returned (.string ⟨(textS a.pair).toArray⟩) ∧ Below W.heap.size W w') := Lib.hid (fun W => hP ▸ rtextS_any a.pair W (by omega))
    have C3 : Hid (∀ W, Calls Tryz.prog 39 #[.int .i64 s] W fun r w' => r = .returned (.string ⟨(numS a.serial).toArray⟩) ∧ Below W.heap.size W w') := Lib.hid (fun W => hs ▸ rnumS_any a.serial W (by omega))
    have C4 : Hid (∀ W, Calls Tryz.prog 39 #[.int .i64 n] W fun r w' => r = .returned (.string ⟨(numS n).toArray⟩) ∧ Below W.heap.size W w') := Lib.hid (fun W => rnumS_any n W (by omega))
    obtain ⟨t1, ht1⟩ : ∃ t : ByteArray, ⟨(textS ver).toArray⟩ = t := ⟨_, rfl⟩
    obtain ⟨t2, ht2⟩ : ∃ t : ByteArray, ⟨(textS a.pair).toArray⟩ = t := ⟨_, rfl⟩
    obtain ⟨t3, ht3⟩ : ∃ t : ByteArray, ⟨(numS a.serial).toArray⟩ = t := ⟨_, rfl⟩
    obtain ⟨t4, ht4⟩ : ∃ t : ByteArray, ⟨(numS n).toArray⟩ = t := ⟨_, rfl⟩
    have z1 : t1.size ≤ 1000 := by rw [← ht1, Lib.size_eq]; have := text_len ver (by decide); have e : ver.length = 8 := rfl; simp only []; omega
    have z2 : t2.size ≤ 1000 := by rw [← ht2, Lib.size_eq]; have := text_len a.pair (by omega); simp only []; omega
    have z3 : t3.size ≤ 1000 := by rw [← ht3, Lib.size_eq]; have := num_len a.serial (by omega); simp only []; omega
    have z4 : t4.size ≤ 1000 := by rw [← ht4, Lib.size_eq]; have := num_len n (by omega); simp only []; omega
    have s2 : t1.size + t2.size ≤ 9223372036854775807 := by omega
    have s3 : t1.size + t2.size + t3.size ≤ 9223372036854775807 := by omega
    have s4 : t1.size + t2.size + t3.size + t4.size ≤ 9223372036854775807 := by omega
    have HH : Hid ((t1 ++ t2 ++ t3 ++ t4).data.toList = headS a) := Lib.hid (by
      rw [← ht1, ← ht2, ← ht3, ← ht4, ← hn]
      unfold headS
      rw [numS_nat (n := (a.tree.length : Int)) (by omega)]
      simp [ByteArray.data_append])
    rw [ht1] at C1
    rw [ht2] at C2
    rw [ht3] at C3
    rw [ht4] at C4
    have HN := Lib.hid hn
    have HM := Lib.hid hm
    have HCut := Lib.hid hCut
    have hnz : (n : Int) ≤ 1000 := by omega
    have hmn : m = n := by rw [← hm, ← hn]; exact hR.len
    subst hmn
    have hmm : True := trivial
    clear hP hn hs hr h hsm b1 r1 e9 ht1 ht2 ht3 ht4 hm hR hCut z1 z2 z3 z4 hpl hser hfs hn1
    go_enter Tryz.func16, Tryz.ntmps16
    repeat (first | (go_at_call 18; fail) | go_skip | go_guarded | go_step | go_upon)
    refine (CK.out _ B1.out).mono ?_
    rintro r w2 ⟨rfl, hb⟩
    simp only []
    have B2 := Lib.hid (Below.trans B1.out (hb.mono B1.out.size))
    have R2 := Lib.hid ((hb.block _ (Array.getElem?_eq_some_iff.1 R1.out).1).trans R1.out)
    clear hb x0 x1 x2 x3
    obtain ⟨x0, x1, x2, x3⟩ := box_cells R2.out
    have HS0 : w2.drew.heap[w.heap.size]? = some (.cells #[.string P, .int .i64 s, .slice ao m ca, .slice so m sc] 35 (0, 0)) := R2.out
    clear x0 x1 x2 x3
    repeat (first | go_skip | go_guarded | go_step | go_upon)
    refine wp_region_noPanic ?_
    with_reducible refine QT.region_mix (S := fun W => W.heap[w.heap.size]? = some (.cells #[.string P, .int .i64 s, .slice ao m ca, .slice so m sc] 35 (0, 0))) [(true, 1), (true, 2), (true, 5), (true, 6), (true, 9), (true, 10), (true, 11), (false, 0), (false, 3), (true, 4), (false, 7), (true, 8), (false, 12), (true, 13)] 14 (by kernel_rfl) (by kernel_rfl) ?_ ?_ ?_
    · exact fun _ _ _ _ _ h => h
    · exact HS0
    intro _
    simp only [QT.pickM, List.filterMap_cons, List.filterMap_nil, List.getElem?_cons_succ, List.getElem?_cons_zero, Option.map_some, List.drop_succ_cons, List.drop_zero]
    iterate 7 (refine QT.wpMix_take _ (by rfl) (by intro w' hSw; obtain ⟨x0, x1, x2, x3⟩ := box_cells hSw; go_simp; first | done | rfl) ?_; try simp only [Act.put, List.setIfInBounds_toArray, List.set_cons_zero, List.set_cons_succ])
    intro K' hK
    rw [if_pos (by rfl)]
    go_simp
    refine (C1.out _).mono ?_
    rintro r w3 ⟨rfl, hb⟩
    simp only []
    have hb' : Below w2.heap.size w2 w3 := ⟨hb.os, hb.tape, hb.output, hb.size, hb.block⟩
    have B3 := Lib.hid (Below.trans B2.out (hb'.mono B2.out.size))
    clear hb'
    have R3 := Lib.hid (row_kept HS0 hb)
    refine hK.out _ _ R3.out ?_
    clear hK K' hb
    try simp only [Act.put, List.setIfInBounds_toArray, List.set_cons_zero, List.set_cons_succ]
    intro K' hK
    rw [if_pos (by rfl)]
    go_simp
    refine (C2.out _).mono ?_
    rintro r w4 ⟨rfl, hb⟩
    simp only []
    have B4 := Lib.hid (Below.trans B3.out (hb.mono B3.out.size))
    have R4 := Lib.hid (row_kept R3.out hb)
    refine hK.out _ _ R4.out ?_
    clear hK K' hb
    try simp only [Act.put, List.setIfInBounds_toArray, List.set_cons_zero, List.set_cons_succ]
    refine QT.wpMix_take _ (by rfl) (by intro w' hSw; go_simp; rw [if_neg (by first | omega | (simp only [ByteArray.size_append]; omega))]) ?_
    try simp only [Act.put, List.setIfInBounds_toArray, List.set_cons_zero, List.set_cons_succ]
    intro K' hK
    rw [if_pos (by rfl)]
    go_simp
    refine (C3.out _).mono ?_
    rintro r w5 ⟨rfl, hb⟩
    simp only []
    have B5 := Lib.hid (Below.trans B4.out (hb.mono B4.out.size))
    have R5 := Lib.hid (row_kept R4.out hb)
    refine hK.out _ _ R5.out ?_
    clear hK K' hb
    try simp only [Act.put, List.setIfInBounds_toArray, List.set_cons_zero, List.set_cons_succ]
    refine QT.wpMix_take _ (by rfl) (by intro w' hSw; go_simp; rw [if_neg (by first | omega | (simp only [ByteArray.size_append]; omega))]) ?_
    try simp only [Act.put, List.setIfInBounds_toArray, List.set_cons_zero, List.set_cons_succ]
    intro K' hK
    rw [if_pos (by rfl)]
    go_simp
    refine (C4.out _).mono ?_
    rintro r w6 ⟨rfl, hb⟩
    simp only []
    have B6 := Lib.hid (Below.trans B5.out (hb.mono B5.out.size))
    have R6 := Lib.hid (row_kept R5.out hb)
    refine hK.out _ _ R6.out ?_
    clear hK K' hb
    try simp only [Act.put, List.setIfInBounds_toArray, List.set_cons_zero, List.set_cons_succ]
    refine QT.wpMix_take _ (by rfl) (by intro w' hSw; go_simp; rw [if_neg (by first | omega | (simp only [ByteArray.size_append]; omega))]) ?_
    try simp only [Act.put, List.setIfInBounds_toArray, List.set_cons_zero, List.set_cons_succ]
    refine QT.wpMix_nil ?_
    try simp only [Act.put, List.setIfInBounds_toArray, List.set_cons_zero, List.set_cons_succ]
    repeat (first | go_skip | go_guarded | go_step | go_upon)
    refine NoPanic.normal ?_
    obtain ⟨x0, x1, x2, x3⟩ := box_cells R6.out
    repeat (first | go_skip | go_guarded | go_step | go_upon)
    go_loopw [5, 4] (fun s5 s4 wr => EInv a m w6 s5 s4 wr) (fun s5 _ _ => m - (Go.RowKit.intOf s5).toNat)
    case atStart => exact ⟨0, _, rfl, rfl, Nat.zero_le _, by rw [HH.out]; simp [nodesS], Below.refl _ _⟩
    case round =>
      obtain ⟨k, S, rfl, rfl, hk, hS, hb⟩ := hrel
      have HS := Lib.hid hS
      have HB := Lib.hid hb
      have Br := Lib.hid (Below.trans B6.out (hb.mono B6.out.size))
      have Rr := Lib.hid ((hb.block _ (Array.getElem?_eq_some_iff.1 R6.out).1).trans R6.out)
      clear hS hb x0 x1 x2 x3
      obtain ⟨x0, x1, x2, x3⟩ := box_cells Rr.out
      by_cases hlt : k < m
      · have hkz : (k : Int) < m := by omega
        obtain ⟨x, hx⟩ : ∃ x, a.tree[k]? = some x := ⟨a.tree[k]'(by rw [HN.out]; exact hlt), List.getElem?_eq_getElem _⟩
        obtain ⟨y, hy⟩ : ∃ y, a.stamps[k]? = some y := ⟨a.stamps[k]'(by rw [HM.out]; exact hlt), List.getElem?_eq_getElem _⟩
        have hok := node_ok HR.out HFit.out (List.mem_of_getElem? hx) (List.mem_of_getElem? hy)
        have HSn := Lib.hid (nodesS_snoc k _ _ _ _ hx hy)
        obtain ⟨g, o, rfl, hg, hcell⟩ := (HLT.out.below Br.out) (by rw [HN.out]; omega)
        obtain ⟨c0, c1, c2, c3⟩ := hcell k x hx
        obtain ⟨g', o', rfl, hg', hcell'⟩ := (HLM.out.below Br.out) (by rw [HM.out]; omega)
        obtain ⟨d0, d1, d2⟩ := hcell' k y hy
        have hSz : S.size ≤ 1000000 := by rw [Lib.size_eq, HS.out]; exact HCut.out k
        have hlen := (nodeS_len hok).2
        unfold nodeS at hlen
        simp only [List.length_append] at hlen
        unfold txt at c0 c2
        obtain ⟨X, hX⟩ : ∃ X : ByteArray, ⟨x.path.toArray⟩ = X := ⟨_, rfl⟩
        obtain ⟨D, hD⟩ : ∃ D : ByteArray, ⟨x.data.toArray⟩ = D := ⟨_, rfl⟩
        obtain ⟨kx, hkx⟩ : ∃ z, x.kind = z := ⟨_, rfl⟩
        obtain ⟨mx, hmx⟩ : ∃ z, x.mode = z := ⟨_, rfl⟩
        obtain ⟨iy, hiy⟩ : ∃ z, y.ino = z := ⟨_, rfl⟩
        obtain ⟨zy, hzy⟩ : ∃ z, y.size = z := ⟨_, rfl⟩
        obtain ⟨ty, hty⟩ : ∃ z, y.time = z := ⟨_, rfl⟩
        obtain ⟨q1, hq1⟩ : ∃ t : ByteArray, ⟨(textS x.path).toArray⟩ = t := ⟨_, rfl⟩
        obtain ⟨q2, hq2⟩ : ∃ t : ByteArray, ⟨(numS x.kind).toArray⟩ = t := ⟨_, rfl⟩
        obtain ⟨q3, hq3⟩ : ∃ t : ByteArray, ⟨(numS x.mode).toArray⟩ = t := ⟨_, rfl⟩
        obtain ⟨q4, hq4⟩ : ∃ t : ByteArray, ⟨(textS x.data).toArray⟩ = t := ⟨_, rfl⟩
        obtain ⟨q5, hq5⟩ : ∃ t : ByteArray, ⟨(numS y.ino).toArray⟩ = t := ⟨_, rfl⟩
        obtain ⟨q6, hq6⟩ : ∃ t : ByteArray, ⟨(numS y.size).toArray⟩ = t := ⟨_, rfl⟩
        obtain ⟨q7, hq7⟩ : ∃ t : ByteArray, ⟨(numS y.time).toArray⟩ = t := ⟨_, rfl⟩
        have D1 : Hid (∀ W, Calls Tryz.prog 38 #[.string X] W fun r w' => r = .returned (.string q1) ∧ Below W.heap.size W w') := Lib.hid (fun W => (hq1 ▸ hX ▸ rtextS_any x.path W (by have := hok.pathL; have := hok.data; omega)))
        have D2 : Hid (∀ W, Calls Tryz.prog 39 #[.int .i64 kx] W fun r w' => r = .returned (.string q2) ∧ Below W.heap.size W w') := Lib.hid (fun W => (hq2 ▸ hkx ▸ rnumS_any x.kind W (by have := hok.k1; have := hok.m1; have := hok.s1.1; have := hok.s1.2.1; have := hok.s1.2.2; omega)))
        have D3 : Hid (∀ W, Calls Tryz.prog 39 #[.int .i64 mx] W fun r w' => r = .returned (.string q3) ∧ Below W.heap.size W w') := Lib.hid (fun W => (hq3 ▸ hmx ▸ rnumS_any x.mode W (by have := hok.k1; have := hok.m1; have := hok.s1.1; have := hok.s1.2.1; have := hok.s1.2.2; omega)))
        have D4 : Hid (∀ W, Calls Tryz.prog 38 #[.string D] W fun r w' => r = .returned (.string q4) ∧ Below W.heap.size W w') := Lib.hid (fun W => (hq4 ▸ hD ▸ rtextS_any x.data W (by have := hok.pathL; have := hok.data; omega)))
        have D5 : Hid (∀ W, Calls Tryz.prog 39 #[.int .i64 iy] W fun r w' => r = .returned (.string q5) ∧ Below W.heap.size W w') := Lib.hid (fun W => (hq5 ▸ hiy ▸ rnumS_any y.ino W (by have := hok.k1; have := hok.m1; have := hok.s1.1; have := hok.s1.2.1; have := hok.s1.2.2; omega)))
        have D6 : Hid (∀ W, Calls Tryz.prog 39 #[.int .i64 zy] W fun r w' => r = .returned (.string q6) ∧ Below W.heap.size W w') := Lib.hid (fun W => (hq6 ▸ hzy ▸ rnumS_any y.size W (by have := hok.k1; have := hok.m1; have := hok.s1.1; have := hok.s1.2.1; have := hok.s1.2.2; omega)))
        have D7 : Hid (∀ W, Calls Tryz.prog 39 #[.int .i64 ty] W fun r w' => r = .returned (.string q7) ∧ Below W.heap.size W w') := Lib.hid (fun W => (hq7 ▸ hty ▸ rnumS_any y.time W (by have := hok.k1; have := hok.m1; have := hok.s1.1; have := hok.s1.2.1; have := hok.s1.2.2; omega)))
        have y1 : q1.size ≤ 500 := by rw [← hq1, Lib.size_eq]; simp only []; omega
        have y2 : q2.size ≤ 500 := by rw [← hq2, Lib.size_eq]; simp only []; omega
        have y3 : q3.size ≤ 500 := by rw [← hq3, Lib.size_eq]; simp only []; omega
        have y4 : q4.size ≤ 500 := by rw [← hq4, Lib.size_eq]; simp only []; omega
        have y5 : q5.size ≤ 500 := by rw [← hq5, Lib.size_eq]; simp only []; omega
        have y6 : q6.size ≤ 500 := by rw [← hq6, Lib.size_eq]; simp only []; omega
        have y7 : q7.size ≤ 500 := by rw [← hq7, Lib.size_eq]; simp only []; omega
        have v1 : S.size + q1.size ≤ 9223372036854775807 := by omega
        have v2 : S.size + q1.size + q2.size ≤ 9223372036854775807 := by omega
        have v3 : S.size + q1.size + q2.size + q3.size ≤ 9223372036854775807 := by omega
        have v4 : S.size + q1.size + q2.size + q3.size + q4.size ≤ 9223372036854775807 := by omega
        have v5 : S.size + q1.size + q2.size + q3.size + q4.size + q5.size ≤ 9223372036854775807 := by omega
        have v6 : S.size + q1.size + q2.size + q3.size + q4.size + q5.size + q6.size ≤ 9223372036854775807 := by omega
        have v7 : S.size + q1.size + q2.size + q3.size + q4.size + q5.size + q6.size + q7.size ≤ 9223372036854775807 := by omega
        have HT : Hid ((S ++ q1 ++ q2 ++ q3 ++ q4 ++ q5 ++ q6 ++ q7).data.toList = headS a ++ nodesS (a.tree.take (k + 1)) (a.stamps.take (k + 1))) := Lib.hid (by
          rw [HSn.out, ← List.append_assoc, ← HS.out]
          unfold nodeS
          rw [← hq1, ← hq2, ← hq3, ← hq4, ← hq5, ← hq6, ← hq7]
          simp [ByteArray.data_append])
        rw [hX] at c0
        rw [hkx] at c1
        rw [hD] at c2
        rw [hmx] at c3
        rw [hiy] at d0
        rw [hzy] at d1
        rw [hty] at d2
        clear hcell hcell' hx hy hok hX hD hkx hmx hiy hzy hty hq1 y1 hq2 y2 hq3 y3 hq4 y4 hq5 y5 hq6 y6 hq7 y7 hlen hSz
        have hwr : w.heap.size < wr.heap.size := (Array.getElem?_eq_some_iff.1 Rr.out).1
        repeat (first | go_skip | go_guarded | go_step | go_upon)
        go_region
        · obtain ⟨hA, hB, hBl⟩ := two_new wr (.cells #[.string X, .int .i64 kx, .string D, .int .i64 mx] 25) (.cells #[.int .i64 iy, .int .i64 zy, .int .i64 ty] 67)
          generalize ((wr.alloc _).alloc _).drew = Wz at hA hB hBl ⊢
          have HS0 : Wz.drew.heap[wr.heap.size]? = some (.cells #[.string X, .int .i64 kx, .string D, .int .i64 mx] 25 (0, 0)) ∧ Wz.drew.heap[(wr.heap.size + 1)]? = some (.cells #[.int .i64 iy, .int .i64 zy, .int .i64 ty] 67 (0, 0)) := ⟨hA, hB⟩
          have HBl := Lib.hid hBl
          clear hA hB hBl
          repeat (first | go_skip | go_guarded | go_step | go_upon)
          refine wp_region_noPanic ?_
          with_reducible refine QT.region_mix (S := fun W => W.heap[wr.heap.size]? = some (.cells #[.string X, .int .i64 kx, .string D, .int .i64 mx] 25 (0, 0)) ∧ W.heap[(wr.heap.size + 1)]? = some (.cells #[.int .i64 iy, .int .i64 zy, .int .i64 ty] 67 (0, 0))) [(true, 0), (true, 1), (true, 2), (true, 5), (true, 6), (true, 9), (true, 10), (true, 13), (true, 14), (true, 17), (true, 18), (true, 21), (true, 22), (true, 25), (true, 26), (false, 3), (true, 4), (false, 7), (true, 8), (false, 11), (true, 12), (false, 15), (true, 16), (false, 19), (true, 20), (false, 23), (true, 24), (false, 27), (true, 28)] 29 (by kernel_rfl) (by kernel_rfl) ?_ ?_ ?_
          · exact fun _ _ _ _ _ h => h
          · exact HS0
          intro _
          simp only [QT.pickM, List.filterMap_cons, List.filterMap_nil, List.getElem?_cons_succ, List.getElem?_cons_zero, Option.map_some, List.drop_succ_cons, List.drop_zero]
          iterate 15 (refine QT.wpMix_take _ (by rfl) (by intro w' hSw; obtain ⟨x0, x1, x2, x3⟩ := box_cells hSw.1; obtain ⟨y0, y1, y2⟩ := box_cells3 hSw.2; go_simp; first | done | rfl) ?_; try simp only [Act.put, List.setIfInBounds_toArray, List.set_cons_zero, List.set_cons_succ])
          intro K' hK
          rw [if_pos (by rfl)]
          go_simp
          refine (D1.out _).mono ?_
          rintro r w20 ⟨rfl, hb⟩
          simp only []
          have hb' : Below Wz.heap.size Wz w20 := ⟨hb.os, hb.tape, hb.output, hb.size, hb.block⟩
          have B20 := Lib.hid (HBl.out.trans (hb'.mono HBl.out.size))
          clear hb'
          have R20 := Lib.hid (And.intro (row_kept HS0.1 hb) (row_kept HS0.2 hb))
          refine hK.out _ _ R20.out ?_
          clear hK K' hb
          try simp only [Act.put, List.setIfInBounds_toArray, List.set_cons_zero, List.set_cons_succ]
          refine QT.wpMix_take _ (by rfl) (by intro w' hSw; go_simp; rw [if_neg (by first | omega | (simp only [ByteArray.size_append]; omega))]) ?_
          try simp only [Act.put, List.setIfInBounds_toArray, List.set_cons_zero, List.set_cons_succ]
          intro K' hK
          rw [if_pos (by rfl)]
          go_simp
          refine (D2.out _).mono ?_
          rintro r w21 ⟨rfl, hb⟩
          simp only []
          have B21 := Lib.hid (B20.out.trans (hb.mono B20.out.size))
          have R21 := Lib.hid (And.intro (row_kept R20.out.1 hb) (row_kept R20.out.2 hb))
          refine hK.out _ _ R21.out ?_
          clear hK K' hb
          try simp only [Act.put, List.setIfInBounds_toArray, List.set_cons_zero, List.set_cons_succ]
          refine QT.wpMix_take _ (by rfl) (by intro w' hSw; go_simp; rw [if_neg (by first | omega | (simp only [ByteArray.size_append]; omega))]) ?_
          try simp only [Act.put, List.setIfInBounds_toArray, List.set_cons_zero, List.set_cons_succ]
          intro K' hK
          rw [if_pos (by rfl)]
          go_simp
          refine (D3.out _).mono ?_
          rintro r w22 ⟨rfl, hb⟩
          simp only []
          have B22 := Lib.hid (B21.out.trans (hb.mono B21.out.size))
          have R22 := Lib.hid (And.intro (row_kept R21.out.1 hb) (row_kept R21.out.2 hb))
          refine hK.out _ _ R22.out ?_
          clear hK K' hb
          try simp only [Act.put, List.setIfInBounds_toArray, List.set_cons_zero, List.set_cons_succ]
          refine QT.wpMix_take _ (by rfl) (by intro w' hSw; go_simp; rw [if_neg (by first | omega | (simp only [ByteArray.size_append]; omega))]) ?_
          try simp only [Act.put, List.setIfInBounds_toArray, List.set_cons_zero, List.set_cons_succ]
          intro K' hK
          rw [if_pos (by rfl)]
          go_simp
          refine (D4.out _).mono ?_
          rintro r w23 ⟨rfl, hb⟩
          simp only []
          have B23 := Lib.hid (B22.out.trans (hb.mono B22.out.size))
          have R23 := Lib.hid (And.intro (row_kept R22.out.1 hb) (row_kept R22.out.2 hb))
          refine hK.out _ _ R23.out ?_
          clear hK K' hb
          try simp only [Act.put, List.setIfInBounds_toArray, List.set_cons_zero, List.set_cons_succ]
          refine QT.wpMix_take _ (by rfl) (by intro w' hSw; go_simp; rw [if_neg (by first | omega | (simp only [ByteArray.size_append]; omega))]) ?_
          try simp only [Act.put, List.setIfInBounds_toArray, List.set_cons_zero, List.set_cons_succ]
          intro K' hK
          rw [if_pos (by rfl)]
          go_simp
          refine (D5.out _).mono ?_
          rintro r w24 ⟨rfl, hb⟩
          simp only []
          have B24 := Lib.hid (B23.out.trans (hb.mono B23.out.size))
          have R24 := Lib.hid (And.intro (row_kept R23.out.1 hb) (row_kept R23.out.2 hb))
          refine hK.out _ _ R24.out ?_
          clear hK K' hb
          try simp only [Act.put, List.setIfInBounds_toArray, List.set_cons_zero, List.set_cons_succ]
          refine QT.wpMix_take _ (by rfl) (by intro w' hSw; go_simp; rw [if_neg (by first | omega | (simp only [ByteArray.size_append]; omega))]) ?_
          try simp only [Act.put, List.setIfInBounds_toArray, List.set_cons_zero, List.set_cons_succ]
          intro K' hK
          rw [if_pos (by rfl)]
          go_simp
          refine (D6.out _).mono ?_
          rintro r w25 ⟨rfl, hb⟩
          simp only []
          have B25 := Lib.hid (B24.out.trans (hb.mono B24.out.size))
          have R25 := Lib.hid (And.intro (row_kept R24.out.1 hb) (row_kept R24.out.2 hb))
          refine hK.out _ _ R25.out ?_
          clear hK K' hb
          try simp only [Act.put, List.setIfInBounds_toArray, List.set_cons_zero, List.set_cons_succ]
          refine QT.wpMix_take _ (by rfl) (by intro w' hSw; go_simp; rw [if_neg (by first | omega | (simp only [ByteArray.size_append]; omega))]) ?_
          try simp only [Act.put, List.setIfInBounds_toArray, List.set_cons_zero, List.set_cons_succ]
          intro K' hK
          rw [if_pos (by rfl)]
          go_simp
          refine (D7.out _).mono ?_
          rintro r w26 ⟨rfl, hb⟩
          simp only []
          have B26 := Lib.hid (B25.out.trans (hb.mono B25.out.size))
          have R26 := Lib.hid (And.intro (row_kept R25.out.1 hb) (row_kept R25.out.2 hb))
          refine hK.out _ _ R26.out ?_
          clear hK K' hb
          try simp only [Act.put, List.setIfInBounds_toArray, List.set_cons_zero, List.set_cons_succ]
          refine QT.wpMix_take _ (by rfl) (by intro w' hSw; go_simp; rw [if_neg (by first | omega | (simp only [ByteArray.size_append]; omega))]) ?_
          try simp only [Act.put, List.setIfInBounds_toArray, List.set_cons_zero, List.set_cons_succ]
          refine QT.wpMix_nil ?_
          try simp only [Act.put, List.setIfInBounds_toArray, List.set_cons_zero, List.set_cons_succ]
          repeat (first | go_skip | go_guarded | go_step | go_upon)
          refine NoPanic.normal ?_
          repeat (first | go_skip | go_guarded | go_step | go_upon)
          exact ⟨⟨k + 1, _, by go_num, rfl, by omega, HT.out, HB.out.trans (B26.out.mono HB.out.size)⟩, by simp [Go.RowKit.intOf]; omega⟩
        · obtain ⟨hA, hB, hBl⟩ := two_new wr (.cells #[.int .i64 iy, .int .i64 zy, .int .i64 ty] 67) (.cells #[.string X, .int .i64 kx, .string D, .int .i64 mx] 25)
          generalize ((wr.alloc _).alloc _).drew = Wz at hA hB hBl ⊢
          have HS0 : Wz.drew.heap[(wr.heap.size + 1)]? = some (.cells #[.string X, .int .i64 kx, .string D, .int .i64 mx] 25 (0, 0)) ∧ Wz.drew.heap[wr.heap.size]? = some (.cells #[.int .i64 iy, .int .i64 zy, .int .i64 ty] 67 (0, 0)) := ⟨hB, hA⟩
          have HBl := Lib.hid hBl
          clear hA hB hBl
          repeat (first | go_skip | go_guarded | go_step | go_upon)
          refine wp_region_noPanic ?_
          with_reducible refine QT.region_mix (S := fun W => W.heap[(wr.heap.size + 1)]? = some (.cells #[.string X, .int .i64 kx, .string D, .int .i64 mx] 25 (0, 0)) ∧ W.heap[wr.heap.size]? = some (.cells #[.int .i64 iy, .int .i64 zy, .int .i64 ty] 67 (0, 0))) [(true, 0), (true, 1), (true, 2), (true, 5), (true, 6), (true, 9), (true, 10), (true, 13), (true, 14), (true, 17), (true, 18), (true, 21), (true, 22), (true, 25), (true, 26), (false, 3), (true, 4), (false, 7), (true, 8), (false, 11), (true, 12), (false, 15), (true, 16), (false, 19), (true, 20), (false, 23), (true, 24), (false, 27), (true, 28)] 29 (by kernel_rfl) (by kernel_rfl) ?_ ?_ ?_
          · exact fun _ _ _ _ _ h => h
          · exact HS0
          intro _
          simp only [QT.pickM, List.filterMap_cons, List.filterMap_nil, List.getElem?_cons_succ, List.getElem?_cons_zero, Option.map_some, List.drop_succ_cons, List.drop_zero]
          iterate 15 (refine QT.wpMix_take _ (by rfl) (by intro w' hSw; obtain ⟨x0, x1, x2, x3⟩ := box_cells hSw.1; obtain ⟨y0, y1, y2⟩ := box_cells3 hSw.2; go_simp; first | done | rfl) ?_; try simp only [Act.put, List.setIfInBounds_toArray, List.set_cons_zero, List.set_cons_succ])
          intro K' hK
          rw [if_pos (by rfl)]
          go_simp
          refine (D1.out _).mono ?_
          rintro r w20 ⟨rfl, hb⟩
          simp only []
          have hb' : Below Wz.heap.size Wz w20 := ⟨hb.os, hb.tape, hb.output, hb.size, hb.block⟩
          have B20 := Lib.hid (HBl.out.trans (hb'.mono HBl.out.size))
          clear hb'
          have R20 := Lib.hid (And.intro (row_kept HS0.1 hb) (row_kept HS0.2 hb))
          refine hK.out _ _ R20.out ?_
          clear hK K' hb
          try simp only [Act.put, List.setIfInBounds_toArray, List.set_cons_zero, List.set_cons_succ]
          refine QT.wpMix_take _ (by rfl) (by intro w' hSw; go_simp; rw [if_neg (by first | omega | (simp only [ByteArray.size_append]; omega))]) ?_
          try simp only [Act.put, List.setIfInBounds_toArray, List.set_cons_zero, List.set_cons_succ]
          intro K' hK
          rw [if_pos (by rfl)]
          go_simp
          refine (D2.out _).mono ?_
          rintro r w21 ⟨rfl, hb⟩
          simp only []
          have B21 := Lib.hid (B20.out.trans (hb.mono B20.out.size))
          have R21 := Lib.hid (And.intro (row_kept R20.out.1 hb) (row_kept R20.out.2 hb))
          refine hK.out _ _ R21.out ?_
          clear hK K' hb
          try simp only [Act.put, List.setIfInBounds_toArray, List.set_cons_zero, List.set_cons_succ]
          refine QT.wpMix_take _ (by rfl) (by intro w' hSw; go_simp; rw [if_neg (by first | omega | (simp only [ByteArray.size_append]; omega))]) ?_
          try simp only [Act.put, List.setIfInBounds_toArray, List.set_cons_zero, List.set_cons_succ]
          intro K' hK
          rw [if_pos (by rfl)]
          go_simp
          refine (D3.out _).mono ?_
          rintro r w22 ⟨rfl, hb⟩
          simp only []
          have B22 := Lib.hid (B21.out.trans (hb.mono B21.out.size))
          have R22 := Lib.hid (And.intro (row_kept R21.out.1 hb) (row_kept R21.out.2 hb))
          refine hK.out _ _ R22.out ?_
          clear hK K' hb
          try simp only [Act.put, List.setIfInBounds_toArray, List.set_cons_zero, List.set_cons_succ]
          refine QT.wpMix_take _ (by rfl) (by intro w' hSw; go_simp; rw [if_neg (by first | omega | (simp only [ByteArray.size_append]; omega))]) ?_
          try simp only [Act.put, List.setIfInBounds_toArray, List.set_cons_zero, List.set_cons_succ]
          intro K' hK
          rw [if_pos (by rfl)]
          go_simp
          refine (D4.out _).mono ?_
          rintro r w23 ⟨rfl, hb⟩
          simp only []
          have B23 := Lib.hid (B22.out.trans (hb.mono B22.out.size))
          have R23 := Lib.hid (And.intro (row_kept R22.out.1 hb) (row_kept R22.out.2 hb))
          refine hK.out _ _ R23.out ?_
          clear hK K' hb
          try simp only [Act.put, List.setIfInBounds_toArray, List.set_cons_zero, List.set_cons_succ]
          refine QT.wpMix_take _ (by rfl) (by intro w' hSw; go_simp; rw [if_neg (by first | omega | (simp only [ByteArray.size_append]; omega))]) ?_
          try simp only [Act.put, List.setIfInBounds_toArray, List.set_cons_zero, List.set_cons_succ]
          intro K' hK
          rw [if_pos (by rfl)]
          go_simp
          refine (D5.out _).mono ?_
          rintro r w24 ⟨rfl, hb⟩
          simp only []
          have B24 := Lib.hid (B23.out.trans (hb.mono B23.out.size))
          have R24 := Lib.hid (And.intro (row_kept R23.out.1 hb) (row_kept R23.out.2 hb))
          refine hK.out _ _ R24.out ?_
          clear hK K' hb
          try simp only [Act.put, List.setIfInBounds_toArray, List.set_cons_zero, List.set_cons_succ]
          refine QT.wpMix_take _ (by rfl) (by intro w' hSw; go_simp; rw [if_neg (by first | omega | (simp only [ByteArray.size_append]; omega))]) ?_
          try simp only [Act.put, List.setIfInBounds_toArray, List.set_cons_zero, List.set_cons_succ]
          intro K' hK
          rw [if_pos (by rfl)]
          go_simp
          refine (D6.out _).mono ?_
          rintro r w25 ⟨rfl, hb⟩
          simp only []
          have B25 := Lib.hid (B24.out.trans (hb.mono B24.out.size))
          have R25 := Lib.hid (And.intro (row_kept R24.out.1 hb) (row_kept R24.out.2 hb))
          refine hK.out _ _ R25.out ?_
          clear hK K' hb
          try simp only [Act.put, List.setIfInBounds_toArray, List.set_cons_zero, List.set_cons_succ]
          refine QT.wpMix_take _ (by rfl) (by intro w' hSw; go_simp; rw [if_neg (by first | omega | (simp only [ByteArray.size_append]; omega))]) ?_
          try simp only [Act.put, List.setIfInBounds_toArray, List.set_cons_zero, List.set_cons_succ]
          intro K' hK
          rw [if_pos (by rfl)]
          go_simp
          refine (D7.out _).mono ?_
          rintro r w26 ⟨rfl, hb⟩
          simp only []
          have B26 := Lib.hid (B25.out.trans (hb.mono B25.out.size))
          have R26 := Lib.hid (And.intro (row_kept R25.out.1 hb) (row_kept R25.out.2 hb))
          refine hK.out _ _ R26.out ?_
          clear hK K' hb
          try simp only [Act.put, List.setIfInBounds_toArray, List.set_cons_zero, List.set_cons_succ]
          refine QT.wpMix_take _ (by rfl) (by intro w' hSw; go_simp; rw [if_neg (by first | omega | (simp only [ByteArray.size_append]; omega))]) ?_
          try simp only [Act.put, List.setIfInBounds_toArray, List.set_cons_zero, List.set_cons_succ]
          refine QT.wpMix_nil ?_
          try simp only [Act.put, List.setIfInBounds_toArray, List.set_cons_zero, List.set_cons_succ]
          repeat (first | go_skip | go_guarded | go_step | go_upon)
          refine NoPanic.normal ?_
          repeat (first | go_skip | go_guarded | go_step | go_upon)
          exact ⟨⟨k + 1, _, by go_num, rfl, by omega, HT.out, HB.out.trans (B26.out.mono HB.out.size)⟩, by simp [Go.RowKit.intOf]; omega⟩
      · have hkz : ¬ (k : Int) < m := by omega
        have hkm : k = m := by omega
        subst hkm
        have hpl := pay_len HR.out HFit.out
        have hSp : S.data.toList = payL a := by
          rw [HS.out, pay_head, List.take_of_length_le (by rw [HN.out]; exact Nat.le_refl _), List.take_of_length_le (by rw [HM.out]; exact Nat.le_refl _)]
        obtain ⟨R, hR⟩ : ∃ Q : ByteArray, ⟨(RP.packL (payL a)).toArray⟩ = Q := ⟨_, rfl⟩
        have HV2 : Hid (encL a = (RP.packL (payL a), 0) ∧ (⟨(RP.packL (payL a)).toArray⟩ : ByteArray) = R) := Lib.hid ⟨HV.out, hR⟩
        have CPk : Hid (∀ W, Calls Tryz.prog 40 #[.string S] W fun r w' => r = .returned (.tuple #[.string R, .int .i64 0]) ∧ Below W.heap.size W w') := Lib.hid (fun W => by
          have h := RQ.rpack_any crc_of9 (payL a) W (by unfold RP.MaxP at hpl; unfold maxLen; omega)
          unfold RQ.packT RQ.packE at h
          rw [if_pos hpl, if_pos hpl, ← str_is hSp, hR] at h
          exact h)
        clear hlt hSp hR hpl
        repeat (first | (go_at_call 40; refine (CPk.out _).mono ?_; rintro r w7 ⟨rfl, hb⟩; simp only []; have B7 := Lib.hid (Below.trans Br.out (hb.mono Br.out.size)); clear hb) | go_skip | go_guarded | go_step | go_upon)
        go_ret2
        exact ⟨by rw [HV2.out.1]; simp only []; rw [HV2.out.2]; rfl, B7.out⟩
end AR
end Go.Proofs.YtiggdojppfblkaaGreatDoor
