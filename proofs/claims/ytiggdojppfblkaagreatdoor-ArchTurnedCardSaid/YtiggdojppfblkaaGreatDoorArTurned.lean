/- Layer 9: the walk of ArchTurned. -/
import Derived.Test.YtiggdojppfblkaaGreatDoorArAw
import Derived.Test.YtiggdojppfblkaaGreatDoorArR9
import Derived.Test.YtiggdojppfblkaaGreatDoorBytes
namespace Go.Proofs.YtiggdojppfblkaaGreatDoor
open Go.RowKit Go.Lib Go.BigFrame
namespace AL
open OM TP TM TG TW TR AP AR AD

theorem back_text {w : World} {g cap : Nat} {l : List UInt8} (h : Mem8 w g cap l) (k : Nat) (b : UInt8) (hk : k < l.length) (z : Nat) (hz : l.length = z) :
    (convert 48 9 (.slice (some ⟨g, 0, none⟩) z cap)).run Tryz.prog (w.setCell ⟨g, k, none⟩ (.int .u8 (b.toNat : Nat))) = .ok (.string ⟨(l.set k b).toArray⟩) (w.setCell ⟨g, k, none⟩ (.int .u8 (b.toNat : Nat))) := by
  have hs := h.set k hk b
  have h := run_convert_bytes_back (P := Tryz.prog) (w.setCell ⟨g, k, none⟩ (.int .u8 (b.toNat : Nat))) 48 9 5 ⟨g, 0, none⟩ cap (l.set k b) Tryz.underlying48 Tryz.underlying5 Tryz.underlying9 (fun j hj => by
    have hadd : (⟨g, 0, none⟩ : Addr).add j = ⟨g, j, none⟩ := by unfold Addr.add; split <;> simp_all
    rw [hadd]
    exact hs.cells j _ (List.getElem?_eq_getElem hj))
  rw [List.length_set, hz] at h
  exact h
theorem one_turned_set (p : List UInt8) (k : Nat) (c y : UInt8) (h : p.length ≤ RP.MaxP) (hc : (RP.packL p)[k]? = some c) (hy : y ≠ 0) : ∃ e, RP.oneL ((RP.packL p).set k (c ^^^ y)) = (e + 1, []) := by
  have hk := (List.getElem?_eq_some_iff.1 hc).1
  refine RP.one_turned p k (c ^^^ y) h hk ?_
  rw [List.getD_eq_getElem?_getD, hc]
  exact RP.xor_ne hy
theorem zero_at (w : World) : ArAt w zeroA none 0 none := ⟨Wide.nil w, ⟨LayM.nil _ _, Nat.zero_le _⟩, Nat.zero_le _, (zero_fit 0).fit⟩
set_option maxRecDepth 100000 in
set_option maxHeartbeats 12800000 in
theorem turned_any (a : Ar) (ao : Option Addr) (ca : Nat) (so : Option Addr) (sc : Nat) (n : Int) (y : UInt8) (w : World) (he : Env w) (h : ArAt w a ao ca so) (h0 : -9223372036854775808 ≤ n) (h1 : n ≤ 9223372036854775807) :
    Calls Tryz.prog 6 #[arVal a ao ca so sc, .int .i64 n, .int .u8 (y.toNat : Nat)] w fun r w' => r = .returned (.bool true) ∧ Below w.heap.size w w' := by
  have CW : Hid (∀ W, Below w.heap.size w W → Calls Tryz.prog 9 #[] W fun r w' => r = .returned (.bool true) ∧ Below W.heap.size W w') := Lib.hid (fun W hW => awake_any W (he.below hW))
  have CE : Hid (∀ W, Below w.heap.size w W → Calls Tryz.prog 15 #[arVal a ao ca so sc] W fun r w' => r = .returned (.tuple #[txt (encL a).1, .int .i64 ((encL a).2 : Nat)]) ∧ Below W.heap.size W w') := Lib.hid (fun W hW => encode_any a ao ca so sc W (he.below hW) (h.below hW))
  have HFit := Lib.hid h.fit
  have HE := Lib.hid he
  unfold arVal txt at CE
  unfold arVal txt
  obtain ⟨P, hP⟩ : ∃ P : ByteArray, ⟨a.pair.toArray⟩ = P := ⟨_, rfl⟩
  obtain ⟨nt, hn⟩ : ∃ n, a.tree.length = n := ⟨_, rfl⟩
  obtain ⟨m, hm⟩ : ∃ n, a.stamps.length = n := ⟨_, rfl⟩
  obtain ⟨s, hs⟩ : ∃ n, a.serial = n := ⟨_, rfl⟩
  obtain ⟨T, hT⟩ : ∃ T : ByteArray, ⟨(encL a).1.toArray⟩ = T := ⟨_, rfl⟩
  obtain ⟨ez, hez⟩ : ∃ z, (encL a).2 = z := ⟨_, rfl⟩
  rw [hP, hn, hm, hs, hT, hez] at CE
  rw [hP, hn, hm, hs]
  have yl := y.toNat_lt
  obtain ⟨yn, hyn⟩ : ∃ yn, y.toNat = yn := ⟨_, rfl⟩
  have hyl : (yn : Int) < 256 := by omega
  rw [hyn]
  obtain ⟨w1, hw1⟩ : ∃ w1, w.alloc (.cells #[.string P, .int .i64 s, .slice ao nt ca, .slice so m sc] 35) = w1 := ⟨_, rfl⟩
  have b1 : Below w.heap.size w w1 := by rw [← hw1]; exact (Below.refl _ _).alloc (Nat.le_refl _) _
  have r1 : w1.heap[w.heap.size]? = some (.cells #[.string P, .int .i64 s, .slice ao nt ca, .slice so m sc] 35 (0, 0)) := by rw [← hw1]; exact heap_alloc_new w _
  have B1 := Lib.hid b1
  have R1 := Lib.hid r1
  have HT := Lib.hid hT
  clear hP hn hm hs b1 r1 h he yl
  cases hq : rightA a with
  | false =>
    have e2 : encL a = ([], 90) := by unfold encL; rw [hq]; rfl
    have hTe : T = ⟨#[]⟩ := by rw [← hT, e2]
    have hz9 : ez = 90 := by rw [← hez, e2]
    subst hz9
    subst hTe
    clear e2 hez hq hyn hT
    go_enter Tryz.func6, Tryz.ntmps6
    repeat (first | (go_at_call 9; fail) | go_skip | go_guarded | go_step | go_upon)
    refine (CW.out _ B1.out).mono ?_
    rintro r w2 ⟨rfl, hb⟩
    simp only []
    have B2 := Lib.hid (B1.out.trans (hb.mono B1.out.size))
    obtain ⟨x0, x1, x2, x3, -⟩ := cell4 ((hb.block _ (Array.getElem?_eq_some_iff.1 R1.out).1).trans R1.out)
    clear hb
    repeat (first | (go_at_call 15; fail) | go_skip | go_guarded | go_step | go_upon)
    refine (CE.out _ B2.out).mono ?_
    rintro r w3 ⟨rfl, hb⟩
    simp only []
    have B3 := Lib.hid (B2.out.trans (hb.mono B2.out.size))
    clear hb x0 x1 x2 x3
    repeat (first | go_skip | go_guarded | go_step | go_upon)
    go_ret
    exact ⟨by first | rfl | simp, B3.out⟩
  | true =>
    have hR := (right_iff a).1 hq
    have hpl := pay_len hR HFit.out
    have HPl := Lib.hid hpl
    have e2 : encL a = (RP.packL (payL a), 0) := by unfold encL; rw [hq]; rfl
    have hz0 : ez = 0 := by rw [← hez, e2]
    subst hz0
    obtain ⟨p, hp⟩ : ∃ p, payL a = p := ⟨_, rfl⟩
    rw [hp] at HPl e2 hpl
    have hTd : T.data.toList = RP.packL p := by rw [← hT, e2]
    obtain ⟨z, hz⟩ : ∃ z, p.length + 8 = z := ⟨_, rfl⟩
    have hTs : T.size = z := by rw [Lib.size_eq, hTd, RP.pack_len]; exact hz
    unfold RP.MaxP at hpl
    have hzl : (z : Int) ≤ 1048584 := by omega
    by_cases hn0 : n < 0
    · clear hR hpl e2 hez hq hyn hT hTd hz hp
      go_enter Tryz.func6, Tryz.ntmps6
      repeat (first | (go_at_call 9; fail) | go_skip | go_guarded | go_step | go_upon)
      refine (CW.out _ B1.out).mono ?_
      rintro r w2 ⟨rfl, hb⟩
      simp only []
      have B2 := Lib.hid (B1.out.trans (hb.mono B1.out.size))
      obtain ⟨x0, x1, x2, x3, -⟩ := cell4 ((hb.block _ (Array.getElem?_eq_some_iff.1 R1.out).1).trans R1.out)
      clear hb
      repeat (first | (go_at_call 15; fail) | go_skip | go_guarded | go_step | go_upon)
      refine (CE.out _ B2.out).mono ?_
      rintro r w3 ⟨rfl, hb⟩
      simp only []
      have B3 := Lib.hid (B2.out.trans (hb.mono B2.out.size))
      clear hb x0 x1 x2 x3
      repeat (first | go_skip | go_guarded | go_step | go_upon)
      go_ret
      exact ⟨by first | rfl | simp, B3.out⟩
    · obtain ⟨k, rfl⟩ : ∃ k : Nat, n = k := ⟨n.toNat, by omega⟩
      by_cases hn1 : (z : Int) ≤ k
      · clear hR hpl e2 hez hq hyn hT hTd hz hp
        go_enter Tryz.func6, Tryz.ntmps6
        repeat (first | (go_at_call 9; fail) | go_skip | go_guarded | go_step | go_upon)
        refine (CW.out _ B1.out).mono ?_
        rintro r w2 ⟨rfl, hb⟩
        simp only []
        have B2 := Lib.hid (B1.out.trans (hb.mono B1.out.size))
        obtain ⟨x0, x1, x2, x3, -⟩ := cell4 ((hb.block _ (Array.getElem?_eq_some_iff.1 R1.out).1).trans R1.out)
        clear hb
        repeat (first | (go_at_call 15; fail) | go_skip | go_guarded | go_step | go_upon)
        refine (CE.out _ B2.out).mono ?_
        rintro r w3 ⟨rfl, hb⟩
        simp only []
        have B3 := Lib.hid (B2.out.trans (hb.mono B2.out.size))
        clear hb x0 x1 x2 x3
        repeat (first | go_skip | go_guarded | go_step | go_upon)
        go_ret
        exact ⟨by first | rfl | simp, B3.out⟩
      · by_cases hy0 : yn = 0
        · subst hy0
          clear hR hpl e2 hez hq hyn hT hTd hz hp hyl
          go_enter Tryz.func6, Tryz.ntmps6
          repeat (first | (go_at_call 9; fail) | go_skip | go_guarded | go_step | go_upon)
          refine (CW.out _ B1.out).mono ?_
          rintro r w2 ⟨rfl, hb⟩
          simp only []
          have B2 := Lib.hid (B1.out.trans (hb.mono B1.out.size))
          obtain ⟨x0, x1, x2, x3, -⟩ := cell4 ((hb.block _ (Array.getElem?_eq_some_iff.1 R1.out).1).trans R1.out)
          clear hb
          repeat (first | (go_at_call 15; fail) | go_skip | go_guarded | go_step | go_upon)
          refine (CE.out _ B2.out).mono ?_
          rintro r w3 ⟨rfl, hb⟩
          simp only []
          have B3 := Lib.hid (B2.out.trans (hb.mono B2.out.size))
          clear hb x0 x1 x2 x3
          repeat (first | go_skip | go_guarded | go_step | go_upon)
          go_ret
          exact ⟨by first | rfl | simp, B3.out⟩
        · have hyz : ¬ (yn : Int) = 0 := by omega
          have hyb : ((yn : Int) == 0) = false := by simpa using hy0
          obtain ⟨c, hc⟩ : ∃ c, (RP.packL p)[k]? = some c := ⟨(RP.packL p)[k]'(by rw [RP.pack_len]; omega), List.getElem?_eq_getElem _⟩
          have hy : y ≠ 0 := fun e => hy0 (by rw [← hyn, e]; rfl)
          obtain ⟨e, hone⟩ := one_turned_set p k c y HPl.out hc hy
          obtain ⟨L, hL⟩ : ∃ L, (RP.packL p).set k (c ^^^ y) = L := ⟨_, rfl⟩
          have hdec : decL L = (zeroA, 90) := dec_bad (by rw [← hL, hone]; simp)
          have hLl : L.length ≤ 140737488355328 := by rw [← hL, List.length_set, RP.pack_len]; omega
          obtain ⟨X, hX⟩ : ∃ X : ByteArray, ⟨L.toArray⟩ = X := ⟨_, rfl⟩
          have C2 : Hid (∀ W, Below w.heap.size w W → Calls Tryz.prog 21 #[.string X] W (DecPost L W)) := Lib.hid (fun W hW => by
            have h := decode_any L W (HE.out.below hW) hLl
            unfold txt at h
            rw [hX] at h
            exact h)
          have HD := Lib.hid hdec
          have x1 := xor_u8 c y
          rw [hyn] at x1
          have hcl := c.toNat_lt
          obtain ⟨cn, hcn⟩ : ∃ cn, c.toNat = cn := ⟨_, rfl⟩
          have hcnl : (cn : Int) < 256 := by omega
          obtain ⟨xn, hxn⟩ : ∃ xn, (c ^^^ y).toNat = xn := ⟨_, rfl⟩
          rw [hcn, hxn] at x1
          have X1 := Lib.hid x1
          have HTd := Lib.hid hTd
          have HC := Lib.hid hc
          have HX := Lib.hid hX
          have HL := Lib.hid hL
          have HCN := Lib.hid hcn
          have HXN := Lib.hid hxn
          have HZ := Lib.hid hz
          clear hR hpl e2 hez hq hyn hT hTd hz hp hc hy hone hX hL hcl hcn hxn hdec hLl x1 h0 h1 hy0
          go_enter Tryz.func6, Tryz.ntmps6
          repeat (first | (go_at_call 9; fail) | go_skip | go_guarded | go_step | go_upon)
          refine (CW.out _ B1.out).mono ?_
          rintro r w2 ⟨rfl, hb⟩
          simp only []
          have B2 := Lib.hid (B1.out.trans (hb.mono B1.out.size))
          obtain ⟨x0, x1, x2, x3, -⟩ := cell4 ((hb.block _ (Array.getElem?_eq_some_iff.1 R1.out).1).trans R1.out)
          clear hb
          repeat (first | (go_at_call 15; fail) | go_skip | go_guarded | go_step | go_upon)
          refine (CE.out _ B2.out).mono ?_
          rintro r w3 ⟨rfl, hb⟩
          simp only []
          have B3 := Lib.hid (B2.out.trans (hb.mono B2.out.size))
          clear hb x0 x1 x2 x3
          obtain ⟨g, cap, w4, hconv, hg, hgl, hcap, hcs, hf, hb4⟩ := text_free w3 T
          rw [hTs] at hconv hcap
          have HM := Lib.hid (show Mem8 w4 g cap (RP.packL p) from HTd.out ▸ ⟨hcs, hf⟩)
          have cg : w4.cell? ⟨g, k, none⟩ = some (.int .u8 cn) := by have h := HM.out.cells k c HC.out; rw [HCN.out] at h; exact h
          have fg : w4.frozen? ⟨g, k, none⟩ = false := HM.out.free k (by omega)
          have hcv := back_text HM.out k (c ^^^ y) (by have := (List.getElem?_eq_some_iff.1 HC.out).1; exact this) z (by rw [RP.pack_len]; exact HZ.out)
          rw [HL.out, HX.out, HXN.out] at hcv
          have HG := Lib.hid hg
          have B4 := Lib.hid (Below.trans B3.out (hb4.mono B3.out.size))
          have x1 := X1.out
          clear hg hgl hcs hf hb4
          repeat (first | (go_at_call 21; fail) | go_skip | go_guarded | go_step | go_upon)
          obtain ⟨w5, hw5⟩ : ∃ w5, w4.setCell ⟨g, k, none⟩ (.int .u8 xn) = w5 := ⟨_, rfl⟩
          have B5 : Hid (Below w.heap.size w w5) := Lib.hid (by rw [← hw5]; exact B4.out.setCell (p := ⟨g, k, none⟩) (by show w.heap.size ≤ g; have := B3.out.size; have := HG.out; omega) _)
          rw [hw5] at hcv ⊢
          repeat (first | (go_at_call 21; fail) | go_skip | go_guarded | go_step | go_upon)
          refine (C2.out _ B5.out).mono ?_
          rintro r w6 ⟨vt, vs, rfl, ho1, ho2, hb6⟩
          simp only []
          rw [HD.out] at ho1 ho2
          obtain ⟨a1, c1, rfl, hwd⟩ := wide_own (ts := []) ho1 rfl (fun x hx => by simp at hx)
          obtain ⟨a2, c2, rfl, hwm⟩ := widem_own (us := []) ho2 rfl
          have B6 := Lib.hid (B5.out.trans (hb6.mono B5.out.size))
          rw [HD.out]
          have ep : (⟨zeroA.pair.toArray⟩ : ByteArray) = ⟨#[]⟩ := rfl
          have es : zeroA.serial = 0 := rfl
          unfold txt
          rw [ep, es]
          obtain ⟨w7, hw7⟩ : ∃ w7, w6.alloc (.cells #[.string ⟨#[]⟩, .int .i64 0, .slice a1 0 c1, .slice a2 0 c2] 35) = w7 := ⟨_, rfl⟩
          have b7 : Below w6.heap.size w6 w7 := by rw [← hw7]; exact (Below.refl _ _).alloc (Nat.le_refl _) _
          have r7 : w7.heap[w6.heap.size]? = some (.cells #[.string ⟨#[]⟩, .int .i64 0, .slice a1 0 c1, .slice a2 0 c2] 35 (0, 0)) := by rw [← hw7]; exact heap_alloc_new w6 _
          have B7 := Lib.hid (B6.out.trans (b7.mono B6.out.size))
          have hS := rsame9_any zeroA zeroA a1 c1 a2 c2 none 0 none 0 w7 ⟨hwd.below b7, hwm.below b7, Nat.zero_le _, (zero_fit 0).fit⟩ (zero_at w7)
          rw [decide_eq_true rfl] at hS
          unfold arVal txt at hS
          rw [ep, es] at hS
          have hS' : Calls Tryz.prog 22 #[.agg #[.string ⟨#[]⟩, .int .i64 0, .slice a1 0 c1, .slice a2 0 c2], .agg #[.string ⟨#[]⟩, .int .i64 0, .slice none 0 0, .slice none 0 0]] w7 fun r w' => r = .returned (.bool true) ∧ Below w7.heap.size w7 w' := hS
          have HS := Lib.hid hS'
          obtain ⟨x0, x1', x2, x3, -⟩ := cell4 r7
          clear ho1 ho2 hb6 ep es hwd hwm b7 r7 hS hS'
          repeat (first | (go_at_call 22; refine HS.out.mono ?_; rintro r w8 ⟨rfl, hb⟩; simp only []; have B8 := Lib.hid (Below.trans B7.out (hb.mono B7.out.size)); clear hb) | go_skip | go_guarded | go_step | go_upon)
          go_ret
          exact ⟨by first | rfl | simp, B8.out⟩
end AL
end Go.Proofs.YtiggdojppfblkaaGreatDoor
