/- Layer 9: the walk of ArchReads. -/
import Derived.Test.YtiggdojppfblkaaGreatDoorArAw
import Derived.Test.YtiggdojppfblkaaGreatDoorArR9
import Derived.Test.YtiggdojppfblkaaGreatDoorArRd
import Derived.Test.YtiggdojppfblkaaGreatDoorArBack
namespace Go.Proofs.YtiggdojppfblkaaGreatDoor
open Go.RowKit Go.Lib Go.BigFrame
namespace AL
open OM TP TM TG TW TR AP AR AD

theorem dec_fit (l : List UInt8) : ReadFit 1048576 (decL l).1 := by
  unfold decL
  by_cases hc : (RP.oneL l).1 = 0 ∧ (readA (RP.oneL l).2).2 = true ∧ rightA (readA (RP.oneL l).2).1 = true
  · rw [if_pos hc]
    have hq : (RP.oneL l).2.length ≤ 1048576 := by
      rcases RP.one_cases l with ⟨q', g1, g2⟩ | ⟨e, g1⟩
      · rw [g1]
        exact (RP.next_ok g2).2
      · rw [g1] at hc
        exact absurd hc.1 (by simp)
    obtain ⟨f1, f2, f3, f4, f5⟩ := read_fit (RP.oneL l).2
    exact ⟨f1, Nat.le_trans f2 hq, f3, fun n hn => Nat.le_trans (f4 n hn) hq, f5⟩
  · rw [if_neg hc]
    exact zero_fit _
set_option maxRecDepth 100000 in
set_option maxHeartbeats 12800000 in
theorem reads_any (l : List UInt8) (w : World) (he : Env w) (hl : l.length ≤ 9223372036854775807) :
    Calls Tryz.prog 5 #[txt l] w fun r w' => r = .returned (.bool true) ∧ Below w.heap.size w w' := by
  have CW : Hid (∀ W, Below w.heap.size w W → Calls Tryz.prog 9 #[] W fun r w' => r = .returned (.bool true) ∧ Below W.heap.size W w') := Lib.hid (fun W hW => awake_any W (he.below hW))
  have CD : Hid (∀ W, Below w.heap.size w W → Calls Tryz.prog 21 #[txt l] W (DecPost l W)) := Lib.hid (fun W hW => decode_any l W (he.below hW) hl)
  have CR : Hid (∀ W, Calls Tryz.prog 23 #[txt l] W (DecPost l W)) := Lib.hid (fun W => rdecode_any l W hl)
  have HE := Lib.hid he
  have hfit := dec_fit l
  have HBk := Lib.hid (fun a => dec_pack (l := l) (a := a))
  unfold DecPost txt at CD CR
  unfold txt
  obtain ⟨a, E, hd⟩ : ∃ a E, decL l = (a, E) := ⟨_, _, rfl⟩
  rw [hd] at CD CR hfit
  simp only [] at CD CR hfit
  have HFit := Lib.hid hfit
  have HD := Lib.hid hd
  obtain ⟨S, hS⟩ : ∃ S : ByteArray, ⟨l.toArray⟩ = S := ⟨_, rfl⟩
  have HS := Lib.hid hS
  obtain ⟨P, hP⟩ : ∃ P : ByteArray, ⟨a.pair.toArray⟩ = P := ⟨_, rfl⟩
  have HP := Lib.hid hP
  obtain ⟨s, hs⟩ : ∃ n, a.serial = n := ⟨_, rfl⟩
  have HSe := Lib.hid hs
  rw [hS, hP, hs] at CD CR
  rw [hS]
  have HAt : Hid (∀ (W : World) (ao : Option Addr) (ca : Nat) (so : Option Addr), Wide W ao ca a.tree → WideM W so a.stamps → ArAt W a ao ca so) := Lib.hid (fun W ao ca so h1 h2 => ⟨h1, h2, by have := HFit.out.pair; unfold maxLen; omega, HFit.out.fit⟩)
  obtain ⟨n, hn⟩ : ∃ n, a.tree.length = n := ⟨_, rfl⟩
  obtain ⟨m, hm⟩ : ∃ n, a.stamps.length = n := ⟨_, rfl⟩
  have HN := Lib.hid hn
  have HM := Lib.hid hm
  rw [hn, hm] at CD CR
  clear hS hP hs he hl hfit hd hn hm
  by_cases hE : E = 0
  · subst hE
    rw [show ((0 : Nat) : Int) = 0 from rfl] at CD CR
    obtain ⟨hl, hr⟩ := HBk.out a HD.out
    have he2 : encL a = (RP.packL (payL a), 0) := by unfold encL; rw [hr]; rfl
    have CE : Hid (∀ (W : World) (ao : Option Addr) (ca : Nat) (so : Option Addr) (sc : Nat), Below w.heap.size w W → ArAt W a ao ca so → Calls Tryz.prog 15 #[.agg #[.string P, .int .i64 s, .slice ao n ca, .slice so m sc]] W fun r w' => r = .returned (.tuple #[.string S, .int .i64 0]) ∧ Below W.heap.size W w') := Lib.hid (fun W ao ca so sc hW hA => by
      have h := encode_any a ao ca so sc W (HE.out.below hW) hA
      unfold arVal txt at h
      rw [he2, ← hl, HS.out, HP.out, HN.out, HM.out, HSe.out] at h
      exact h)
    clear hl hr he2
    go_enter Tryz.func5, Tryz.ntmps5
    repeat (first | (go_at_call 9; fail) | go_skip | go_guarded | go_step | go_upon)
    refine (CW.out _ (Below.refl _ _)).mono ?_
    rintro r w2 ⟨rfl, hb⟩
    simp only []
    have B2 := Lib.hid hb
    clear hb
    repeat (first | (go_at_call 21; fail) | go_skip | go_guarded | go_step | go_upon)
    refine (CD.out _ B2.out).mono ?_
    rintro r w3 ⟨vt, vs, rfl, ho1, ho2, hb⟩
    simp only []
    have B3 := Lib.hid (B2.out.trans (hb.mono B2.out.size))
    obtain ⟨a1, c1, e1, hwd⟩ := wide_own (ts := a.tree) ho1 HN.out.symm (fun x hx => by have := HFit.out.path x hx; unfold maxLen; omega)
    obtain ⟨a2, c2, e2, hwm⟩ := widem_own (us := a.stamps) ho2 HM.out.symm
    rw [HN.out] at e1
    rw [HM.out] at e2
    subst e1 e2
    obtain ⟨w4, hw4⟩ : ∃ W, w3.alloc (.cells #[.string P, .int .i64 s, .slice a1 n c1, .slice a2 m c2] 35) = W := ⟨_, rfl⟩
    have b4 : Below w3.heap.size w3 w4 := by rw [← hw4]; exact (Below.refl _ _).alloc (Nat.le_refl _) _
    have R4 : Hid (w4.heap[w3.heap.size]? = some (.cells #[.string P, .int .i64 s, .slice a1 n c1, .slice a2 m c2] 35 (0, 0))) := Lib.hid (by rw [← hw4]; exact heap_alloc_new w3 _)
    have B4 := Lib.hid (B3.out.trans (b4.mono B3.out.size))
    have HW1 := Lib.hid (And.intro (hwd.below b4) (hwm.below b4))
    clear ho1 ho2 hb hwd hwm b4
    repeat (first | (go_at_call 23; fail) | go_skip | go_guarded | go_step | go_upon)
    refine (CR.out _).mono ?_
    rintro r w5 ⟨vt, vs, rfl, ho1, ho2, hb⟩
    simp only []
    have B5 := Lib.hid (B4.out.trans (hb.mono B4.out.size))
    have HW1b := Lib.hid (And.intro (HW1.out.1.below hb) (HW1.out.2.below hb))
    have R5 := Lib.hid (rowD R4.out hb)
    obtain ⟨b1, d1, e1, hwd⟩ := wide_own (ts := a.tree) ho1 HN.out.symm (fun x hx => by have := HFit.out.path x hx; unfold maxLen; omega)
    obtain ⟨b2, d2, e2, hwm⟩ := widem_own (us := a.stamps) ho2 HM.out.symm
    rw [HN.out] at e1
    rw [HM.out] at e2
    subst e1 e2
    obtain ⟨w6, hw6⟩ : ∃ W, w5.alloc (.cells #[.string P, .int .i64 s, .slice b1 n d1, .slice b2 m d2] 35) = W := ⟨_, rfl⟩
    have b6 : Below w5.heap.size w5 w6 := by rw [← hw6]; exact (Below.refl _ _).alloc (Nat.le_refl _) _
    have R6 : Hid (w6.heap[w5.heap.size]? = some (.cells #[.string P, .int .i64 s, .slice b1 n d1, .slice b2 m d2] 35 (0, 0))) := Lib.hid (by rw [← hw6]; exact heap_alloc_new w5 _)
    have B6 := Lib.hid (B5.out.trans (b6.mono B5.out.size))
    have R5' := Lib.hid (rowD R5.out b6)
    have HWa := Lib.hid (And.intro (HW1b.out.1.below b6) (HW1b.out.2.below b6))
    have hS := rsame9_any a a a1 c1 a2 c2 b1 d1 b2 d2 w6 (HAt.out w6 a1 c1 a2 HWa.out.1 HWa.out.2) (HAt.out w6 b1 d1 b2 (hwd.below b6) (hwm.below b6))
    rw [decide_eq_true rfl] at hS
    unfold arVal txt at hS
    rw [HP.out, HN.out, HM.out, HSe.out] at hS
    have HSm := Lib.hid hS
    obtain ⟨x0, x1, x2, x3, -⟩ := cell4 R5'.out
    obtain ⟨y0, y1, y2, y3, -⟩ := cell4 R6.out
    clear ho1 ho2 hb hwd hwm b6 hS
    repeat (first | (go_at_call 22; fail) | go_skip | go_guarded | go_step | go_upon)
    refine HSm.out.mono ?_
    rintro r w7 ⟨rfl, hb⟩
    simp only []
    have B7 := Lib.hid (B6.out.trans (hb.mono B6.out.size))
    have R7 := Lib.hid (rowD R5'.out hb)
    have HWc := Lib.hid (And.intro (HWa.out.1.below hb) (HWa.out.2.below hb))
    clear hb x0 x1 x2 x3 y0 y1 y2 y3
    obtain ⟨x0, x1, x2, x3, -⟩ := cell4 R7.out
    repeat (first | (go_at_call 15; fail) | go_skip | go_guarded | go_step | go_upon)
    refine (CE.out w7 a1 c1 a2 c2 B7.out (HAt.out w7 a1 c1 a2 HWc.out.1 HWc.out.2)).mono ?_
    rintro r w8 ⟨rfl, hb⟩
    simp only []
    have B8 := Lib.hid (B7.out.trans (hb.mono B7.out.size))
    clear hb x0 x1 x2 x3
    repeat (first | go_skip | go_guarded | go_step | go_upon)
    go_ret
    exact ⟨by first | rfl | simp, B8.out⟩
  · have hEz : ((E : Int) != 0) = true := by simpa using hE
    clear hE
    go_enter Tryz.func5, Tryz.ntmps5
    repeat (first | (go_at_call 9; fail) | go_skip | go_guarded | go_step | go_upon)
    refine (CW.out _ (Below.refl _ _)).mono ?_
    rintro r w2 ⟨rfl, hb⟩
    simp only []
    have B2 := Lib.hid hb
    clear hb
    repeat (first | (go_at_call 21; fail) | go_skip | go_guarded | go_step | go_upon)
    refine (CD.out _ B2.out).mono ?_
    rintro r w3 ⟨vt, vs, rfl, ho1, ho2, hb⟩
    simp only []
    have B3 := Lib.hid (B2.out.trans (hb.mono B2.out.size))
    obtain ⟨a1, c1, e1, hwd⟩ := wide_own (ts := a.tree) ho1 HN.out.symm (fun x hx => by have := HFit.out.path x hx; unfold maxLen; omega)
    obtain ⟨a2, c2, e2, hwm⟩ := widem_own (us := a.stamps) ho2 HM.out.symm
    rw [HN.out] at e1
    rw [HM.out] at e2
    subst e1 e2
    obtain ⟨w4, hw4⟩ : ∃ W, w3.alloc (.cells #[.string P, .int .i64 s, .slice a1 n c1, .slice a2 m c2] 35) = W := ⟨_, rfl⟩
    have b4 : Below w3.heap.size w3 w4 := by rw [← hw4]; exact (Below.refl _ _).alloc (Nat.le_refl _) _
    have R4 : Hid (w4.heap[w3.heap.size]? = some (.cells #[.string P, .int .i64 s, .slice a1 n c1, .slice a2 m c2] 35 (0, 0))) := Lib.hid (by rw [← hw4]; exact heap_alloc_new w3 _)
    have B4 := Lib.hid (B3.out.trans (b4.mono B3.out.size))
    have HW1 := Lib.hid (And.intro (hwd.below b4) (hwm.below b4))
    clear ho1 ho2 hb hwd hwm b4
    repeat (first | (go_at_call 23; fail) | go_skip | go_guarded | go_step | go_upon)
    refine (CR.out _).mono ?_
    rintro r w5 ⟨vt, vs, rfl, ho1, ho2, hb⟩
    simp only []
    have B5 := Lib.hid (B4.out.trans (hb.mono B4.out.size))
    have HW1b := Lib.hid (And.intro (HW1.out.1.below hb) (HW1.out.2.below hb))
    have R5 := Lib.hid (rowD R4.out hb)
    obtain ⟨b1, d1, e1, hwd⟩ := wide_own (ts := a.tree) ho1 HN.out.symm (fun x hx => by have := HFit.out.path x hx; unfold maxLen; omega)
    obtain ⟨b2, d2, e2, hwm⟩ := widem_own (us := a.stamps) ho2 HM.out.symm
    rw [HN.out] at e1
    rw [HM.out] at e2
    subst e1 e2
    obtain ⟨w6, hw6⟩ : ∃ W, w5.alloc (.cells #[.string P, .int .i64 s, .slice b1 n d1, .slice b2 m d2] 35) = W := ⟨_, rfl⟩
    have b6 : Below w5.heap.size w5 w6 := by rw [← hw6]; exact (Below.refl _ _).alloc (Nat.le_refl _) _
    have R6 : Hid (w6.heap[w5.heap.size]? = some (.cells #[.string P, .int .i64 s, .slice b1 n d1, .slice b2 m d2] 35 (0, 0))) := Lib.hid (by rw [← hw6]; exact heap_alloc_new w5 _)
    have B6 := Lib.hid (B5.out.trans (b6.mono B5.out.size))
    have R5' := Lib.hid (rowD R5.out b6)
    have HWa := Lib.hid (And.intro (HW1b.out.1.below b6) (HW1b.out.2.below b6))
    have hS := rsame9_any a a a1 c1 a2 c2 b1 d1 b2 d2 w6 (HAt.out w6 a1 c1 a2 HWa.out.1 HWa.out.2) (HAt.out w6 b1 d1 b2 (hwd.below b6) (hwm.below b6))
    rw [decide_eq_true rfl] at hS
    unfold arVal txt at hS
    rw [HP.out, HN.out, HM.out, HSe.out] at hS
    have HSm := Lib.hid hS
    obtain ⟨x0, x1, x2, x3, -⟩ := cell4 R5'.out
    obtain ⟨y0, y1, y2, y3, -⟩ := cell4 R6.out
    clear ho1 ho2 hb hwd hwm b6 hS
    repeat (first | (go_at_call 22; fail) | go_skip | go_guarded | go_step | go_upon)
    refine HSm.out.mono ?_
    rintro r w7 ⟨rfl, hb⟩
    simp only []
    have B7 := Lib.hid (B6.out.trans (hb.mono B6.out.size))
    have R7 := Lib.hid (rowD R5'.out hb)
    have HWc := Lib.hid (And.intro (HWa.out.1.below hb) (HWa.out.2.below hb))
    clear hb x0 x1 x2 x3 y0 y1 y2 y3
    repeat (first | go_skip | go_guarded | go_step | go_upon)
    go_ret
    exact ⟨by first | rfl | simp, B7.out⟩
end AL
end Go.Proofs.YtiggdojppfblkaaGreatDoor
