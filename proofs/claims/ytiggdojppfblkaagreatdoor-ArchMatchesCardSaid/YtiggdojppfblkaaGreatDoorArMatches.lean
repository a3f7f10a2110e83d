/- Layer 9: the walk of ArchMatches. -/
import Derived.Test.YtiggdojppfblkaaGreatDoorArAw
import Derived.Test.YtiggdojppfblkaaGreatDoorArMat
namespace Go.Proofs.YtiggdojppfblkaaGreatDoor
open Go.RowKit Go.Lib Go.BigFrame
namespace AL
open OM TP TM TG TW TR AP AR AD

theorem match_symm (a b : Ar) : matchA b a = matchA a b := by
  unfold matchA
  rw [Bool.and_comm (rightA b) (rightA a)]
  congr 1
  · congr 1
    · congr 1
      simp [eq_comm]
    · simp [eq_comm]
  · simp [eq_comm]
/-- The second one, with the stamps of the first one. -/
def mixA (a b : Ar) : Ar := ⟨b.pair, b.serial, b.tree, a.stamps⟩
theorem mix_right {a b : Ar} (ha : RightA a) (hb : RightA b) (hl : a.tree.length = b.tree.length) : RightA (mixA a b) := ⟨hb.pair, hb.pairL, hb.serial, hb.tree, hb.bare, by show a.stamps.length = b.tree.length; rw [ha.len, hl], ha.ok⟩
theorem mix_enc {a b : Ar} (ha : RightA a) (hfa : FitA a) (hb : RightA b) (hfb : FitA b) (hl : a.tree.length = b.tree.length) : decide (RP.packL (payL a) = RP.packL (payL (mixA a b))) = matchA a b := by
  have hm : matchA a b = decide (a = mixA a b) := by
    unfold matchA
    rw [(right_iff a).2 ha, (right_iff b).2 hb]
    obtain ⟨p, s, t, u⟩ := a
    obtain ⟨p', s', t', u'⟩ := b
    unfold mixA
    simp [Bool.decide_and, Bool.and_assoc]
  rw [hm]
  rw [decide_eq_decide]
  constructor
  · intro h
    exact enc_inj ha hfa (mix_right ha hb hl) ⟨hfb.serial, hfa.stamps⟩ h
  · intro h
    rw [← h]
theorem check_val {a : Ar} {b : Bool} (h : rightA a = b) : checkA a = if b = true then 0 else 90 := by unfold checkA; rw [h]
set_option maxRecDepth 100000 in
set_option maxHeartbeats 12800000 in
theorem matches_any (a b : Ar) (ao : Option Addr) (ca : Nat) (so : Option Addr) (sc : Nat) (bo : Option Addr) (cb : Nat) (uo : Option Addr) (tc : Nat) (w : World) (he : Env w) (h : ArAt w a ao ca so) (k : ArAt w b bo cb uo) :
    Calls Tryz.prog 8 #[arVal a ao ca so sc, arVal b bo cb uo tc] w fun r w' => r = .returned (.bool true) ∧ Below w.heap.size w w' := by
  have CW : Hid (∀ W, Below w.heap.size w W → Calls Tryz.prog 9 #[] W fun r w' => r = .returned (.bool true) ∧ Below W.heap.size W w') := Lib.hid (fun W hW => awake_any W (he.below hW))
  have CM : Hid (∀ W, Below w.heap.size w W → Calls Tryz.prog 19 #[arVal a ao ca so sc, arVal b bo cb uo tc] W fun r w' => r = .returned (.bool (matchA a b)) ∧ Below W.heap.size W w') := Lib.hid (fun W hW => match_any a b ao ca so sc bo cb uo tc W (he.below hW).nf (h.below hW) (k.below hW))
  have CN : Hid (∀ W, Below w.heap.size w W → Calls Tryz.prog 19 #[arVal b bo cb uo tc, arVal a ao ca so sc] W fun r w' => r = .returned (.bool (matchA a b)) ∧ Below W.heap.size W w') := Lib.hid (fun W hW => by
    have := match_any b a bo cb uo tc ao ca so sc W (he.below hW).nf (k.below hW) (h.below hW)
    rw [match_symm] at this
    exact this)
  have CA : Hid (∀ W, Below w.heap.size w W → Calls Tryz.prog 17 #[arVal a ao ca so sc] W fun r w' => r = .returned (.int .i64 (checkA a : Nat)) ∧ Below W.heap.size W w') := Lib.hid (fun W hW => acheck_any a ao ca so sc W (he.below hW).nf (h.below hW))
  have CB : Hid (∀ W, Below w.heap.size w W → Calls Tryz.prog 17 #[arVal b bo cb uo tc] W fun r w' => r = .returned (.int .i64 (checkA b : Nat)) ∧ Below W.heap.size W w') := Lib.hid (fun W hW => acheck_any b bo cb uo tc W (he.below hW).nf (k.below hW))
  have CE : Hid (∀ W, Below w.heap.size w W → Calls Tryz.prog 15 #[arVal a ao ca so sc] W fun r w' => r = .returned (.tuple #[txt (encL a).1, .int .i64 ((encL a).2 : Nat)]) ∧ Below W.heap.size W w') := Lib.hid (fun W hW => encode_any a ao ca so sc W (he.below hW) (h.below hW))
  have CF : Hid (∀ W, Below w.heap.size w W → Calls Tryz.prog 15 #[arVal (mixA a b) bo cb so sc] W fun r w' => r = .returned (.tuple #[txt (encL (mixA a b)).1, .int .i64 ((encL (mixA a b)).2 : Nat)]) ∧ Below W.heap.size W w') := Lib.hid (fun W hW => encode_any (mixA a b) bo cb so sc W (he.below hW) ⟨(k.below hW).tree, (h.below hW).stamps, k.pair, ⟨k.fit.serial, h.fit.stamps⟩⟩)
  have HFa := Lib.hid h.fit
  have HFb := Lib.hid k.fit
  obtain ⟨eb1, heb1⟩ : ∃ x, (encL (mixA a b)).1 = x := ⟨_, rfl⟩
  obtain ⟨eb2, heb2⟩ : ∃ x, (encL (mixA a b)).2 = x := ⟨_, rfl⟩
  rw [heb1, heb2] at CF
  have HE1 := Lib.hid heb1
  have HE2 := Lib.hid heb2
  clear heb1 heb2
  unfold arVal txt at CM CN CA CB CE CF
  obtain ⟨S2, hS2⟩ : ∃ S : ByteArray, ⟨eb1.toArray⟩ = S := ⟨_, rfl⟩
  have HS2 := Lib.hid hS2
  rw [hS2] at CF
  clear hS2
  unfold arVal txt
  simp only [mixA] at CF
  obtain ⟨P, hP⟩ : ∃ P : ByteArray, ⟨a.pair.toArray⟩ = P := ⟨_, rfl⟩
  obtain ⟨Q, hQ⟩ : ∃ P : ByteArray, ⟨b.pair.toArray⟩ = P := ⟨_, rfl⟩
  obtain ⟨n, hn⟩ : ∃ n, a.tree.length = n := ⟨_, rfl⟩
  obtain ⟨m, hm⟩ : ∃ n, a.stamps.length = n := ⟨_, rfl⟩
  obtain ⟨s, hs⟩ : ∃ n, a.serial = n := ⟨_, rfl⟩
  obtain ⟨n', hn'⟩ : ∃ n, b.tree.length = n := ⟨_, rfl⟩
  obtain ⟨m', hm'⟩ : ∃ n, b.stamps.length = n := ⟨_, rfl⟩
  obtain ⟨s', hs'⟩ : ∃ n, b.serial = n := ⟨_, rfl⟩
  have HNn := Lib.hid hn
  have HNn' := Lib.hid hn'
  have hnm : (n : Int) ≤ 9223372036854775807 := by have := h.tree.max; unfold maxLen at this; omega
  have hnm' : (n' : Int) ≤ 9223372036854775807 := by have := k.tree.max; unfold maxLen at this; omega
  rw [hP, hQ, hn, hm, hs, hn', hm', hs'] at CM CN
  rw [hP, hn, hm, hs] at CA CE
  rw [hQ, hn', hm', hs'] at CB
  rw [hQ, hn', hm] at CF
  simp only [hs'] at CF
  rw [hP, hQ, hn, hm, hs, hn', hm', hs']
  obtain ⟨w1, hw1⟩ : ∃ w1, w.alloc (.cells #[.string P, .int .i64 s, .slice ao n ca, .slice so m sc] 35) = w1 := ⟨_, rfl⟩
  have b1 : Below w.heap.size w w1 := by rw [← hw1]; exact (Below.refl _ _).alloc (Nat.le_refl _) _
  have r1 : w1.heap[w.heap.size]? = some (.cells #[.string P, .int .i64 s, .slice ao n ca, .slice so m sc] 35 (0, 0)) := by rw [← hw1]; exact heap_alloc_new w _
  obtain ⟨W2, hw2⟩ : ∃ w2, w1.alloc (.cells #[.string Q, .int .i64 s', .slice bo n' cb, .slice uo m' tc] 35) = w2 := ⟨_, rfl⟩
  have b2 : Below w1.heap.size w1 W2 := by rw [← hw2]; exact (Below.refl _ _).alloc (Nat.le_refl _) _
  have r2 : W2.heap[w1.heap.size]? = some (.cells #[.string Q, .int .i64 s', .slice bo n' cb, .slice uo m' tc] 35 (0, 0)) := by rw [← hw2]; exact heap_alloc_new w1 _
  have RA2 := Lib.hid ((b2.block _ (Array.getElem?_eq_some_iff.1 r1).1).trans r1)
  have RB2 := Lib.hid r2
  have B2 := Lib.hid (b1.trans (b2.mono b1.size))
  obtain ⟨x0, x1, x2, x3, -⟩ := cell4 RA2.out
  obtain ⟨y0, y1, y2, y3, -⟩ := cell4 RB2.out
  obtain ⟨qa, hqa⟩ : ∃ x, rightA a = x := ⟨_, rfl⟩
  obtain ⟨qb, hqb⟩ : ∃ x, rightA b = x := ⟨_, rfl⟩
  have HQa := Lib.hid hqa
  have HQb := Lib.hid hqb
  clear hP hQ hn hm hs hn' hm' hs' hqa hqb h k he b1 b2 r1 r2
  cases qa with
  | false =>
    have em : matchA a b = false := by unfold matchA; rw [HQa.out]; rfl
    have ea := check_val HQa.out
    simp only [Bool.false_eq_true, if_false] at ea
    rw [ea] at CA
    rw [em] at CM CN
    clear ea em
    go_enter Tryz.func8, Tryz.ntmps8
    repeat (first | (go_at_call 9; fail) | go_skip | go_guarded | go_step | go_upon)
    refine (CW.out _ B2.out).mono ?_
    rintro r W3 ⟨rfl, hb⟩
    simp only []
    have RA3 := Lib.hid ((hb.block _ (Array.getElem?_eq_some_iff.1 RA2.out).1).trans RA2.out)
    have RB3 := Lib.hid ((hb.block _ (Array.getElem?_eq_some_iff.1 RB2.out).1).trans RB2.out)
    have B3 := Lib.hid (B2.out.trans (hb.mono B2.out.size))
    clear x0 x1 x2 x3 y0 y1 y2 y3
    obtain ⟨x0, x1, x2, x3, -⟩ := cell4 RA3.out
    obtain ⟨y0, y1, y2, y3, -⟩ := cell4 RB3.out
    clear hb
    repeat (first | (go_at_call 19; fail) | go_skip | go_guarded | go_step | go_upon)
    refine (CM.out _ B3.out).mono ?_
    rintro r W4 ⟨rfl, hb⟩
    simp only []
    have RA4 := Lib.hid ((hb.block _ (Array.getElem?_eq_some_iff.1 RA3.out).1).trans RA3.out)
    have RB4 := Lib.hid ((hb.block _ (Array.getElem?_eq_some_iff.1 RB3.out).1).trans RB3.out)
    have B4 := Lib.hid (B3.out.trans (hb.mono B3.out.size))
    clear x0 x1 x2 x3 y0 y1 y2 y3
    obtain ⟨x0, x1, x2, x3, -⟩ := cell4 RA4.out
    obtain ⟨y0, y1, y2, y3, -⟩ := cell4 RB4.out
    clear hb
    repeat (first | (go_at_call 19; fail) | go_skip | go_guarded | go_step | go_upon)
    refine (CN.out _ B4.out).mono ?_
    rintro r W5 ⟨rfl, hb⟩
    simp only []
    have RA5 := Lib.hid ((hb.block _ (Array.getElem?_eq_some_iff.1 RA4.out).1).trans RA4.out)
    have RB5 := Lib.hid ((hb.block _ (Array.getElem?_eq_some_iff.1 RB4.out).1).trans RB4.out)
    have B5 := Lib.hid (B4.out.trans (hb.mono B4.out.size))
    clear x0 x1 x2 x3 y0 y1 y2 y3
    obtain ⟨x0, x1, x2, x3, -⟩ := cell4 RA5.out
    obtain ⟨y0, y1, y2, y3, -⟩ := cell4 RB5.out
    clear hb
    repeat (first | (go_at_call 17; fail) | go_skip | go_guarded | go_step | go_upon)
    refine (CA.out _ B5.out).mono ?_
    rintro r W6 ⟨rfl, hb⟩
    simp only []
    have RA6 := Lib.hid ((hb.block _ (Array.getElem?_eq_some_iff.1 RA5.out).1).trans RA5.out)
    have RB6 := Lib.hid ((hb.block _ (Array.getElem?_eq_some_iff.1 RB5.out).1).trans RB5.out)
    have B6 := Lib.hid (B5.out.trans (hb.mono B5.out.size))
    clear x0 x1 x2 x3 y0 y1 y2 y3
    obtain ⟨x0, x1, x2, x3, -⟩ := cell4 RA6.out
    obtain ⟨y0, y1, y2, y3, -⟩ := cell4 RB6.out
    clear hb
    repeat (first | go_skip | go_guarded | go_step | go_upon)
    go_ret
    exact ⟨by first | rfl | simp, B6.out⟩
  | true =>
    cases qb with
    | false =>
      have em : matchA a b = false := by unfold matchA; rw [HQa.out, HQb.out]; rfl
      have ea := check_val HQa.out
      have eb := check_val HQb.out
      simp only [if_true, Bool.false_eq_true, if_false] at ea eb
      rw [ea] at CA
      rw [eb] at CB
      rw [em] at CM CN
      clear ea eb
      clear em
      go_enter Tryz.func8, Tryz.ntmps8
      repeat (first | (go_at_call 9; fail) | go_skip | go_guarded | go_step | go_upon)
      refine (CW.out _ B2.out).mono ?_
      rintro r W3 ⟨rfl, hb⟩
      simp only []
      have RA3 := Lib.hid ((hb.block _ (Array.getElem?_eq_some_iff.1 RA2.out).1).trans RA2.out)
      have RB3 := Lib.hid ((hb.block _ (Array.getElem?_eq_some_iff.1 RB2.out).1).trans RB2.out)
      have B3 := Lib.hid (B2.out.trans (hb.mono B2.out.size))
      clear x0 x1 x2 x3 y0 y1 y2 y3
      obtain ⟨x0, x1, x2, x3, -⟩ := cell4 RA3.out
      obtain ⟨y0, y1, y2, y3, -⟩ := cell4 RB3.out
      clear hb
      repeat (first | (go_at_call 19; fail) | go_skip | go_guarded | go_step | go_upon)
      refine (CM.out _ B3.out).mono ?_
      rintro r W4 ⟨rfl, hb⟩
      simp only []
      have RA4 := Lib.hid ((hb.block _ (Array.getElem?_eq_some_iff.1 RA3.out).1).trans RA3.out)
      have RB4 := Lib.hid ((hb.block _ (Array.getElem?_eq_some_iff.1 RB3.out).1).trans RB3.out)
      have B4 := Lib.hid (B3.out.trans (hb.mono B3.out.size))
      clear x0 x1 x2 x3 y0 y1 y2 y3
      obtain ⟨x0, x1, x2, x3, -⟩ := cell4 RA4.out
      obtain ⟨y0, y1, y2, y3, -⟩ := cell4 RB4.out
      clear hb
      repeat (first | (go_at_call 19; fail) | go_skip | go_guarded | go_step | go_upon)
      refine (CN.out _ B4.out).mono ?_
      rintro r W5 ⟨rfl, hb⟩
      simp only []
      have RA5 := Lib.hid ((hb.block _ (Array.getElem?_eq_some_iff.1 RA4.out).1).trans RA4.out)
      have RB5 := Lib.hid ((hb.block _ (Array.getElem?_eq_some_iff.1 RB4.out).1).trans RB4.out)
      have B5 := Lib.hid (B4.out.trans (hb.mono B4.out.size))
      clear x0 x1 x2 x3 y0 y1 y2 y3
      obtain ⟨x0, x1, x2, x3, -⟩ := cell4 RA5.out
      obtain ⟨y0, y1, y2, y3, -⟩ := cell4 RB5.out
      clear hb
      repeat (first | (go_at_call 17; fail) | go_skip | go_guarded | go_step | go_upon)
      refine (CA.out _ B5.out).mono ?_
      rintro r W6 ⟨rfl, hb⟩
      simp only []
      have RA6 := Lib.hid ((hb.block _ (Array.getElem?_eq_some_iff.1 RA5.out).1).trans RA5.out)
      have RB6 := Lib.hid ((hb.block _ (Array.getElem?_eq_some_iff.1 RB5.out).1).trans RB5.out)
      have B6 := Lib.hid (B5.out.trans (hb.mono B5.out.size))
      clear x0 x1 x2 x3 y0 y1 y2 y3
      obtain ⟨x0, x1, x2, x3, -⟩ := cell4 RA6.out
      obtain ⟨y0, y1, y2, y3, -⟩ := cell4 RB6.out
      clear hb
      repeat (first | (go_at_call 17; fail) | go_skip | go_guarded | go_step | go_upon)
      refine (CB.out _ B6.out).mono ?_
      rintro r W7 ⟨rfl, hb⟩
      simp only []
      have RA7 := Lib.hid ((hb.block _ (Array.getElem?_eq_some_iff.1 RA6.out).1).trans RA6.out)
      have RB7 := Lib.hid ((hb.block _ (Array.getElem?_eq_some_iff.1 RB6.out).1).trans RB6.out)
      have B7 := Lib.hid (B6.out.trans (hb.mono B6.out.size))
      clear x0 x1 x2 x3 y0 y1 y2 y3
      obtain ⟨x0, x1, x2, x3, -⟩ := cell4 RA7.out
      obtain ⟨y0, y1, y2, y3, -⟩ := cell4 RB7.out
      clear hb
      repeat (first | go_skip | go_guarded | go_step | go_upon)
      go_ret
      exact ⟨by first | rfl | simp, B7.out⟩
    | true =>
      have HRa := Lib.hid ((right_iff a).1 HQa.out)
      have HRb := Lib.hid ((right_iff b).1 HQb.out)
      have hea : encL a = (RP.packL (payL a), 0) := by unfold encL; rw [HQa.out]; rfl
      rw [hea] at CE
      obtain ⟨S1, hS1⟩ : ∃ S : ByteArray, ⟨(RP.packL (payL a)).toArray⟩ = S := ⟨_, rfl⟩
      have HS1 := Lib.hid hS1
      simp only [hS1] at CE
      clear hS1 hea
      by_cases hl : n = n'
      · have hlt : a.tree.length = b.tree.length := by rw [HNn.out, HNn'.out, hl]
        have hec : encL (mixA a b) = (RP.packL (payL (mixA a b)), 0) := by unfold encL; rw [if_pos ((right_iff _).2 (mix_right HRa.out HRb.out hlt))]
        have hme := mix_enc HRa.out HFa.out HRb.out HFb.out hlt
        have hss : (S1.toList == S2.toList) = matchA a b := by rw [← HS1.out, ← HS2.out, str_eq, ← HE1.out, hec]; exact hme
        have he2 : eb2 = 0 := by rw [← HE2.out, hec]
        subst he2
        have hnn : ((n : Int) != (n' : Int)) = false := by simp [hl]
        subst hl
        clear hec hme hlt hnn
        cases hmm : matchA a b with
        | true =>
          rw [hmm] at hss
          have ea := check_val HQa.out
          have eb := check_val HQb.out
          simp only [if_true, if_true] at ea eb
          rw [ea] at CA
          rw [eb] at CB
          rw [hmm] at CM CN
          clear ea eb
          clear hmm
          go_enter Tryz.func8, Tryz.ntmps8
          repeat (first | (go_at_call 9; fail) | go_skip | go_guarded | go_step | go_upon)
          refine (CW.out _ B2.out).mono ?_
          rintro r W3 ⟨rfl, hb⟩
          simp only []
          have RA3 := Lib.hid ((hb.block _ (Array.getElem?_eq_some_iff.1 RA2.out).1).trans RA2.out)
          have RB3 := Lib.hid ((hb.block _ (Array.getElem?_eq_some_iff.1 RB2.out).1).trans RB2.out)
          have B3 := Lib.hid (B2.out.trans (hb.mono B2.out.size))
          clear x0 x1 x2 x3 y0 y1 y2 y3
          obtain ⟨x0, x1, x2, x3, -⟩ := cell4 RA3.out
          obtain ⟨y0, y1, y2, y3, -⟩ := cell4 RB3.out
          clear hb
          repeat (first | (go_at_call 19; fail) | go_skip | go_guarded | go_step | go_upon)
          refine (CM.out _ B3.out).mono ?_
          rintro r W4 ⟨rfl, hb⟩
          simp only []
          have RA4 := Lib.hid ((hb.block _ (Array.getElem?_eq_some_iff.1 RA3.out).1).trans RA3.out)
          have RB4 := Lib.hid ((hb.block _ (Array.getElem?_eq_some_iff.1 RB3.out).1).trans RB3.out)
          have B4 := Lib.hid (B3.out.trans (hb.mono B3.out.size))
          clear x0 x1 x2 x3 y0 y1 y2 y3
          obtain ⟨x0, x1, x2, x3, -⟩ := cell4 RA4.out
          obtain ⟨y0, y1, y2, y3, -⟩ := cell4 RB4.out
          clear hb
          repeat (first | (go_at_call 19; fail) | go_skip | go_guarded | go_step | go_upon)
          refine (CN.out _ B4.out).mono ?_
          rintro r W5 ⟨rfl, hb⟩
          simp only []
          have RA5 := Lib.hid ((hb.block _ (Array.getElem?_eq_some_iff.1 RA4.out).1).trans RA4.out)
          have RB5 := Lib.hid ((hb.block _ (Array.getElem?_eq_some_iff.1 RB4.out).1).trans RB4.out)
          have B5 := Lib.hid (B4.out.trans (hb.mono B4.out.size))
          clear x0 x1 x2 x3 y0 y1 y2 y3
          obtain ⟨x0, x1, x2, x3, -⟩ := cell4 RA5.out
          obtain ⟨y0, y1, y2, y3, -⟩ := cell4 RB5.out
          clear hb
          repeat (first | (go_at_call 17; fail) | go_skip | go_guarded | go_step | go_upon)
          refine (CA.out _ B5.out).mono ?_
          rintro r W6 ⟨rfl, hb⟩
          simp only []
          have RA6 := Lib.hid ((hb.block _ (Array.getElem?_eq_some_iff.1 RA5.out).1).trans RA5.out)
          have RB6 := Lib.hid ((hb.block _ (Array.getElem?_eq_some_iff.1 RB5.out).1).trans RB5.out)
          have B6 := Lib.hid (B5.out.trans (hb.mono B5.out.size))
          clear x0 x1 x2 x3 y0 y1 y2 y3
          obtain ⟨x0, x1, x2, x3, -⟩ := cell4 RA6.out
          obtain ⟨y0, y1, y2, y3, -⟩ := cell4 RB6.out
          clear hb
          repeat (first | (go_at_call 17; fail) | go_skip | go_guarded | go_step | go_upon)
          refine (CB.out _ B6.out).mono ?_
          rintro r W7 ⟨rfl, hb⟩
          simp only []
          have RA7 := Lib.hid ((hb.block _ (Array.getElem?_eq_some_iff.1 RA6.out).1).trans RA6.out)
          have RB7 := Lib.hid ((hb.block _ (Array.getElem?_eq_some_iff.1 RB6.out).1).trans RB6.out)
          have B7 := Lib.hid (B6.out.trans (hb.mono B6.out.size))
          clear x0 x1 x2 x3 y0 y1 y2 y3
          obtain ⟨x0, x1, x2, x3, -⟩ := cell4 RA7.out
          obtain ⟨y0, y1, y2, y3, -⟩ := cell4 RB7.out
          clear hb
          repeat (first | (go_at_call 17; fail) | go_skip | go_guarded | go_step | go_upon)
          refine (CA.out _ B7.out).mono ?_
          rintro r W8 ⟨rfl, hb⟩
          simp only []
          have RA8 := Lib.hid ((hb.block _ (Array.getElem?_eq_some_iff.1 RA7.out).1).trans RA7.out)
          have RB8 := Lib.hid ((hb.block _ (Array.getElem?_eq_some_iff.1 RB7.out).1).trans RB7.out)
          have B8 := Lib.hid (B7.out.trans (hb.mono B7.out.size))
          clear x0 x1 x2 x3 y0 y1 y2 y3
          obtain ⟨x0, x1, x2, x3, -⟩ := cell4 RA8.out
          obtain ⟨y0, y1, y2, y3, -⟩ := cell4 RB8.out
          clear hb
          repeat (first | (go_at_call 17; fail) | go_skip | go_guarded | go_step | go_upon)
          refine (CB.out _ B8.out).mono ?_
          rintro r W9 ⟨rfl, hb⟩
          simp only []
          have RA9 := Lib.hid ((hb.block _ (Array.getElem?_eq_some_iff.1 RA8.out).1).trans RA8.out)
          have RB9 := Lib.hid ((hb.block _ (Array.getElem?_eq_some_iff.1 RB8.out).1).trans RB8.out)
          have B9 := Lib.hid (B8.out.trans (hb.mono B8.out.size))
          clear x0 x1 x2 x3 y0 y1 y2 y3
          obtain ⟨x0, x1, x2, x3, -⟩ := cell4 RA9.out
          obtain ⟨y0, y1, y2, y3, -⟩ := cell4 RB9.out
          clear hb
          obtain ⟨W10, hW⟩ : ∃ W, W9.alloc (.cells #[.string Q, .int .i64 s', .slice bo n cb, .slice uo m' tc] 35) = W := ⟨_, rfl⟩
          have b7 : Below W9.heap.size W9 W10 := by rw [← hW]; exact (Below.refl _ _).alloc (Nat.le_refl _) _
          have r7 : W10.heap[W9.heap.size]? = some (.cells #[.string Q, .int .i64 s', .slice bo n cb, .slice uo m' tc] 35 (0, 0)) := by rw [← hW]; exact heap_alloc_new W9 _
          have la := (Array.getElem?_eq_some_iff.1 RA9.out).1
          have lb := (Array.getElem?_eq_some_iff.1 RB9.out).1
          have RA10 := Lib.hid ((b7.block _ la).trans RA9.out)
          have RB10 := Lib.hid ((b7.block _ lb).trans RB9.out)
          have B10 := Lib.hid (B9.out.trans (b7.mono B9.out.size))
          have RC10 := Lib.hid r7
          have HNa : Hid (w.heap.size ≠ W9.heap.size ∧ w1.heap.size ≠ W9.heap.size) := Lib.hid ⟨by omega, by omega⟩
          have HBc : Hid (w.heap.size ≤ W9.heap.size) := Lib.hid (by omega)
          obtain ⟨x0', x1', x2', x3', -⟩ := cell4 RA10.out
          obtain ⟨z0, z1, z2, z3, zf⟩ := cell4 RC10.out
          have xs3 : (W10.setCell ⟨W9.heap.size, 3, none⟩ (.slice so m sc)).cell? ⟨w.heap.size, 3, none⟩ = some (.slice so m sc) := by rw [World.cell?_of_block (w := W10) (Below.heap_setCell _ _ _ _ (show w.heap.size ≠ W9.heap.size by omega))]; exact x3'
          clear b7 r7 la lb
          repeat (first | (go_at_call 15; fail) | go_skip | go_guarded | go_step | go_upon)
          obtain ⟨W11, hV⟩ : ∃ W, W10.setCell ⟨W9.heap.size, 3, none⟩ (.slice so m sc) = W := ⟨_, rfl⟩
          rw [hV]
          have RA11 := Lib.hid ((show W11.heap[w.heap.size]? = W10.heap[w.heap.size]? by rw [← hV]; exact Below.heap_setCell _ _ _ _ HNa.out.1).trans RA10.out)
          have RB11 := Lib.hid ((show W11.heap[w1.heap.size]? = W10.heap[w1.heap.size]? by rw [← hV]; exact Below.heap_setCell _ _ _ _ HNa.out.2).trans RB10.out)
          have RC11 : Hid (W11.heap[W9.heap.size]? = some (.cells #[.string Q, .int .i64 s', .slice bo n cb, .slice so m sc] 35 (0, 0))) := Lib.hid (by rw [← hV]; exact row_set RC10.out _)
          have B11 : Hid (Below w.heap.size w W11) := Lib.hid (by rw [← hV]; exact B10.out.setCell (p := ⟨W9.heap.size, 3, none⟩) HBc.out _)
          clear hW hV xs3 x0' x1' x2' x3' z0 z1 z2 z3 zf
          refine (CE.out _ B11.out).mono ?_
          rintro r W12 ⟨rfl, hb⟩
          simp only []
          have RA12 := Lib.hid ((hb.block _ (Array.getElem?_eq_some_iff.1 RA11.out).1).trans RA11.out)
          have RB12 := Lib.hid ((hb.block _ (Array.getElem?_eq_some_iff.1 RB11.out).1).trans RB11.out)
          have B12 := Lib.hid (B11.out.trans (hb.mono B11.out.size))
          clear x0 x1 x2 x3 y0 y1 y2 y3
          obtain ⟨x0, x1, x2, x3, -⟩ := cell4 RA12.out
          obtain ⟨y0, y1, y2, y3, -⟩ := cell4 RB12.out
          have RC12 := Lib.hid ((hb.block _ (Array.getElem?_eq_some_iff.1 RC11.out).1).trans RC11.out)
          clear hb
          obtain ⟨z0, z1, z2, z3, -⟩ := cell4 RC12.out
          repeat (first | (go_at_call 15; fail) | go_skip | go_guarded | go_step | go_upon)
          refine (CF.out _ B12.out).mono ?_
          rintro r W13 ⟨rfl, hb⟩
          simp only []
          have RA13 := Lib.hid ((hb.block _ (Array.getElem?_eq_some_iff.1 RA12.out).1).trans RA12.out)
          have RB13 := Lib.hid ((hb.block _ (Array.getElem?_eq_some_iff.1 RB12.out).1).trans RB12.out)
          have B13 := Lib.hid (B12.out.trans (hb.mono B12.out.size))
          clear x0 x1 x2 x3 y0 y1 y2 y3
          obtain ⟨x0, x1, x2, x3, -⟩ := cell4 RA13.out
          obtain ⟨y0, y1, y2, y3, -⟩ := cell4 RB13.out
          clear hb
          repeat (first | go_skip | go_guarded | go_step | go_upon)
          go_ret
          exact ⟨by first | rfl | simp [hss], B13.out⟩
        | false =>
          rw [hmm] at hss
          have ea := check_val HQa.out
          have eb := check_val HQb.out
          simp only [if_true, if_true] at ea eb
          rw [ea] at CA
          rw [eb] at CB
          rw [hmm] at CM CN
          clear ea eb
          clear hmm
          go_enter Tryz.func8, Tryz.ntmps8
          repeat (first | (go_at_call 9; fail) | go_skip | go_guarded | go_step | go_upon)
          refine (CW.out _ B2.out).mono ?_
          rintro r W3 ⟨rfl, hb⟩
          simp only []
          have RA3 := Lib.hid ((hb.block _ (Array.getElem?_eq_some_iff.1 RA2.out).1).trans RA2.out)
          have RB3 := Lib.hid ((hb.block _ (Array.getElem?_eq_some_iff.1 RB2.out).1).trans RB2.out)
          have B3 := Lib.hid (B2.out.trans (hb.mono B2.out.size))
          clear x0 x1 x2 x3 y0 y1 y2 y3
          obtain ⟨x0, x1, x2, x3, -⟩ := cell4 RA3.out
          obtain ⟨y0, y1, y2, y3, -⟩ := cell4 RB3.out
          clear hb
          repeat (first | (go_at_call 19; fail) | go_skip | go_guarded | go_step | go_upon)
          refine (CM.out _ B3.out).mono ?_
          rintro r W4 ⟨rfl, hb⟩
          simp only []
          have RA4 := Lib.hid ((hb.block _ (Array.getElem?_eq_some_iff.1 RA3.out).1).trans RA3.out)
          have RB4 := Lib.hid ((hb.block _ (Array.getElem?_eq_some_iff.1 RB3.out).1).trans RB3.out)
          have B4 := Lib.hid (B3.out.trans (hb.mono B3.out.size))
          clear x0 x1 x2 x3 y0 y1 y2 y3
          obtain ⟨x0, x1, x2, x3, -⟩ := cell4 RA4.out
          obtain ⟨y0, y1, y2, y3, -⟩ := cell4 RB4.out
          clear hb
          repeat (first | (go_at_call 19; fail) | go_skip | go_guarded | go_step | go_upon)
          refine (CN.out _ B4.out).mono ?_
          rintro r W5 ⟨rfl, hb⟩
          simp only []
          have RA5 := Lib.hid ((hb.block _ (Array.getElem?_eq_some_iff.1 RA4.out).1).trans RA4.out)
          have RB5 := Lib.hid ((hb.block _ (Array.getElem?_eq_some_iff.1 RB4.out).1).trans RB4.out)
          have B5 := Lib.hid (B4.out.trans (hb.mono B4.out.size))
          clear x0 x1 x2 x3 y0 y1 y2 y3
          obtain ⟨x0, x1, x2, x3, -⟩ := cell4 RA5.out
          obtain ⟨y0, y1, y2, y3, -⟩ := cell4 RB5.out
          clear hb
          repeat (first | (go_at_call 17; fail) | go_skip | go_guarded | go_step | go_upon)
          refine (CA.out _ B5.out).mono ?_
          rintro r W6 ⟨rfl, hb⟩
          simp only []
          have RA6 := Lib.hid ((hb.block _ (Array.getElem?_eq_some_iff.1 RA5.out).1).trans RA5.out)
          have RB6 := Lib.hid ((hb.block _ (Array.getElem?_eq_some_iff.1 RB5.out).1).trans RB5.out)
          have B6 := Lib.hid (B5.out.trans (hb.mono B5.out.size))
          clear x0 x1 x2 x3 y0 y1 y2 y3
          obtain ⟨x0, x1, x2, x3, -⟩ := cell4 RA6.out
          obtain ⟨y0, y1, y2, y3, -⟩ := cell4 RB6.out
          clear hb
          repeat (first | (go_at_call 17; fail) | go_skip | go_guarded | go_step | go_upon)
          refine (CB.out _ B6.out).mono ?_
          rintro r W7 ⟨rfl, hb⟩
          simp only []
          have RA7 := Lib.hid ((hb.block _ (Array.getElem?_eq_some_iff.1 RA6.out).1).trans RA6.out)
          have RB7 := Lib.hid ((hb.block _ (Array.getElem?_eq_some_iff.1 RB6.out).1).trans RB6.out)
          have B7 := Lib.hid (B6.out.trans (hb.mono B6.out.size))
          clear x0 x1 x2 x3 y0 y1 y2 y3
          obtain ⟨x0, x1, x2, x3, -⟩ := cell4 RA7.out
          obtain ⟨y0, y1, y2, y3, -⟩ := cell4 RB7.out
          clear hb
          obtain ⟨W8, hW⟩ : ∃ W, W7.alloc (.cells #[.string Q, .int .i64 s', .slice bo n cb, .slice uo m' tc] 35) = W := ⟨_, rfl⟩
          have b7 : Below W7.heap.size W7 W8 := by rw [← hW]; exact (Below.refl _ _).alloc (Nat.le_refl _) _
          have r7 : W8.heap[W7.heap.size]? = some (.cells #[.string Q, .int .i64 s', .slice bo n cb, .slice uo m' tc] 35 (0, 0)) := by rw [← hW]; exact heap_alloc_new W7 _
          have la := (Array.getElem?_eq_some_iff.1 RA7.out).1
          have lb := (Array.getElem?_eq_some_iff.1 RB7.out).1
          have RA8 := Lib.hid ((b7.block _ la).trans RA7.out)
          have RB8 := Lib.hid ((b7.block _ lb).trans RB7.out)
          have B8 := Lib.hid (B7.out.trans (b7.mono B7.out.size))
          have RC8 := Lib.hid r7
          have HNa : Hid (w.heap.size ≠ W7.heap.size ∧ w1.heap.size ≠ W7.heap.size) := Lib.hid ⟨by omega, by omega⟩
          have HBc : Hid (w.heap.size ≤ W7.heap.size) := Lib.hid (by omega)
          obtain ⟨x0', x1', x2', x3', -⟩ := cell4 RA8.out
          obtain ⟨z0, z1, z2, z3, zf⟩ := cell4 RC8.out
          have xs3 : (W8.setCell ⟨W7.heap.size, 3, none⟩ (.slice so m sc)).cell? ⟨w.heap.size, 3, none⟩ = some (.slice so m sc) := by rw [World.cell?_of_block (w := W8) (Below.heap_setCell _ _ _ _ (show w.heap.size ≠ W7.heap.size by omega))]; exact x3'
          clear b7 r7 la lb
          repeat (first | (go_at_call 15; fail) | go_skip | go_guarded | go_step | go_upon)
          obtain ⟨W9, hV⟩ : ∃ W, W8.setCell ⟨W7.heap.size, 3, none⟩ (.slice so m sc) = W := ⟨_, rfl⟩
          rw [hV]
          have RA9 := Lib.hid ((show W9.heap[w.heap.size]? = W8.heap[w.heap.size]? by rw [← hV]; exact Below.heap_setCell _ _ _ _ HNa.out.1).trans RA8.out)
          have RB9 := Lib.hid ((show W9.heap[w1.heap.size]? = W8.heap[w1.heap.size]? by rw [← hV]; exact Below.heap_setCell _ _ _ _ HNa.out.2).trans RB8.out)
          have RC9 : Hid (W9.heap[W7.heap.size]? = some (.cells #[.string Q, .int .i64 s', .slice bo n cb, .slice so m sc] 35 (0, 0))) := Lib.hid (by rw [← hV]; exact row_set RC8.out _)
          have B9 : Hid (Below w.heap.size w W9) := Lib.hid (by rw [← hV]; exact B8.out.setCell (p := ⟨W7.heap.size, 3, none⟩) HBc.out _)
          clear hW hV xs3 x0' x1' x2' x3' z0 z1 z2 z3 zf
          refine (CE.out _ B9.out).mono ?_
          rintro r W10 ⟨rfl, hb⟩
          simp only []
          have RA10 := Lib.hid ((hb.block _ (Array.getElem?_eq_some_iff.1 RA9.out).1).trans RA9.out)
          have RB10 := Lib.hid ((hb.block _ (Array.getElem?_eq_some_iff.1 RB9.out).1).trans RB9.out)
          have B10 := Lib.hid (B9.out.trans (hb.mono B9.out.size))
          clear x0 x1 x2 x3 y0 y1 y2 y3
          obtain ⟨x0, x1, x2, x3, -⟩ := cell4 RA10.out
          obtain ⟨y0, y1, y2, y3, -⟩ := cell4 RB10.out
          have RC10 := Lib.hid ((hb.block _ (Array.getElem?_eq_some_iff.1 RC9.out).1).trans RC9.out)
          clear hb
          obtain ⟨z0, z1, z2, z3, -⟩ := cell4 RC10.out
          repeat (first | (go_at_call 15; fail) | go_skip | go_guarded | go_step | go_upon)
          refine (CF.out _ B10.out).mono ?_
          rintro r W11 ⟨rfl, hb⟩
          simp only []
          have RA11 := Lib.hid ((hb.block _ (Array.getElem?_eq_some_iff.1 RA10.out).1).trans RA10.out)
          have RB11 := Lib.hid ((hb.block _ (Array.getElem?_eq_some_iff.1 RB10.out).1).trans RB10.out)
          have B11 := Lib.hid (B10.out.trans (hb.mono B10.out.size))
          clear x0 x1 x2 x3 y0 y1 y2 y3
          obtain ⟨x0, x1, x2, x3, -⟩ := cell4 RA11.out
          obtain ⟨y0, y1, y2, y3, -⟩ := cell4 RB11.out
          clear hb
          repeat (first | go_skip | go_guarded | go_step | go_upon)
          go_ret
          exact ⟨by first | rfl | simp [hss], B11.out⟩
      · have hmm : matchA a b = false := by
          unfold matchA
          have : a.tree ≠ b.tree := fun e => hl (by rw [← HNn.out, ← HNn'.out, e])
          rw [decide_eq_false this]
          simp
        have hnn : ((n : Int) != (n' : Int)) = true := by simp; omega
        have ea := check_val HQa.out
        have eb := check_val HQb.out
        simp only [if_true, if_true] at ea eb
        rw [ea] at CA
        rw [eb] at CB
        rw [hmm] at CM CN
        clear ea eb
        clear hmm
        go_enter Tryz.func8, Tryz.ntmps8
        repeat (first | (go_at_call 9; fail) | go_skip | go_guarded | go_step | go_upon)
        refine (CW.out _ B2.out).mono ?_
        rintro r W3 ⟨rfl, hb⟩
        simp only []
        have RA3 := Lib.hid ((hb.block _ (Array.getElem?_eq_some_iff.1 RA2.out).1).trans RA2.out)
        have RB3 := Lib.hid ((hb.block _ (Array.getElem?_eq_some_iff.1 RB2.out).1).trans RB2.out)
        have B3 := Lib.hid (B2.out.trans (hb.mono B2.out.size))
        clear x0 x1 x2 x3 y0 y1 y2 y3
        obtain ⟨x0, x1, x2, x3, -⟩ := cell4 RA3.out
        obtain ⟨y0, y1, y2, y3, -⟩ := cell4 RB3.out
        clear hb
        repeat (first | (go_at_call 19; fail) | go_skip | go_guarded | go_step | go_upon)
        refine (CM.out _ B3.out).mono ?_
        rintro r W4 ⟨rfl, hb⟩
        simp only []
        have RA4 := Lib.hid ((hb.block _ (Array.getElem?_eq_some_iff.1 RA3.out).1).trans RA3.out)
        have RB4 := Lib.hid ((hb.block _ (Array.getElem?_eq_some_iff.1 RB3.out).1).trans RB3.out)
        have B4 := Lib.hid (B3.out.trans (hb.mono B3.out.size))
        clear x0 x1 x2 x3 y0 y1 y2 y3
        obtain ⟨x0, x1, x2, x3, -⟩ := cell4 RA4.out
        obtain ⟨y0, y1, y2, y3, -⟩ := cell4 RB4.out
        clear hb
        repeat (first | (go_at_call 19; fail) | go_skip | go_guarded | go_step | go_upon)
        refine (CN.out _ B4.out).mono ?_
        rintro r W5 ⟨rfl, hb⟩
        simp only []
        have RA5 := Lib.hid ((hb.block _ (Array.getElem?_eq_some_iff.1 RA4.out).1).trans RA4.out)
        have RB5 := Lib.hid ((hb.block _ (Array.getElem?_eq_some_iff.1 RB4.out).1).trans RB4.out)
        have B5 := Lib.hid (B4.out.trans (hb.mono B4.out.size))
        clear x0 x1 x2 x3 y0 y1 y2 y3
        obtain ⟨x0, x1, x2, x3, -⟩ := cell4 RA5.out
        obtain ⟨y0, y1, y2, y3, -⟩ := cell4 RB5.out
        clear hb
        repeat (first | (go_at_call 17; fail) | go_skip | go_guarded | go_step | go_upon)
        refine (CA.out _ B5.out).mono ?_
        rintro r W6 ⟨rfl, hb⟩
        simp only []
        have RA6 := Lib.hid ((hb.block _ (Array.getElem?_eq_some_iff.1 RA5.out).1).trans RA5.out)
        have RB6 := Lib.hid ((hb.block _ (Array.getElem?_eq_some_iff.1 RB5.out).1).trans RB5.out)
        have B6 := Lib.hid (B5.out.trans (hb.mono B5.out.size))
        clear x0 x1 x2 x3 y0 y1 y2 y3
        obtain ⟨x0, x1, x2, x3, -⟩ := cell4 RA6.out
        obtain ⟨y0, y1, y2, y3, -⟩ := cell4 RB6.out
        clear hb
        repeat (first | (go_at_call 17; fail) | go_skip | go_guarded | go_step | go_upon)
        refine (CB.out _ B6.out).mono ?_
        rintro r W7 ⟨rfl, hb⟩
        simp only []
        have RA7 := Lib.hid ((hb.block _ (Array.getElem?_eq_some_iff.1 RA6.out).1).trans RA6.out)
        have RB7 := Lib.hid ((hb.block _ (Array.getElem?_eq_some_iff.1 RB6.out).1).trans RB6.out)
        have B7 := Lib.hid (B6.out.trans (hb.mono B6.out.size))
        clear x0 x1 x2 x3 y0 y1 y2 y3
        obtain ⟨x0, x1, x2, x3, -⟩ := cell4 RA7.out
        obtain ⟨y0, y1, y2, y3, -⟩ := cell4 RB7.out
        clear hb
        obtain ⟨W8, hW⟩ : ∃ W, W7.alloc (.cells #[.string Q, .int .i64 s', .slice bo n' cb, .slice uo m' tc] 35) = W := ⟨_, rfl⟩
        have b7 : Below W7.heap.size W7 W8 := by rw [← hW]; exact (Below.refl _ _).alloc (Nat.le_refl _) _
        have r7 : W8.heap[W7.heap.size]? = some (.cells #[.string Q, .int .i64 s', .slice bo n' cb, .slice uo m' tc] 35 (0, 0)) := by rw [← hW]; exact heap_alloc_new W7 _
        have la := (Array.getElem?_eq_some_iff.1 RA7.out).1
        have lb := (Array.getElem?_eq_some_iff.1 RB7.out).1
        have RA8 := Lib.hid ((b7.block _ la).trans RA7.out)
        have RB8 := Lib.hid ((b7.block _ lb).trans RB7.out)
        have B8 := Lib.hid (B7.out.trans (b7.mono B7.out.size))
        have RC8 := Lib.hid r7
        have HNa : Hid (w.heap.size ≠ W7.heap.size ∧ w1.heap.size ≠ W7.heap.size) := Lib.hid ⟨by omega, by omega⟩
        have HBc : Hid (w.heap.size ≤ W7.heap.size) := Lib.hid (by omega)
        obtain ⟨x0', x1', x2', x3', -⟩ := cell4 RA8.out
        obtain ⟨z0, z1, z2, z3, zf⟩ := cell4 RC8.out
        have xs3 : (W8.setCell ⟨W7.heap.size, 3, none⟩ (.slice so m sc)).cell? ⟨w.heap.size, 3, none⟩ = some (.slice so m sc) := by rw [World.cell?_of_block (w := W8) (Below.heap_setCell _ _ _ _ (show w.heap.size ≠ W7.heap.size by omega))]; exact x3'
        clear b7 r7 la lb
        repeat (first | (go_at_call 15; fail) | go_skip | go_guarded | go_step | go_upon)
        obtain ⟨W9, hV⟩ : ∃ W, W8.setCell ⟨W7.heap.size, 3, none⟩ (.slice so m sc) = W := ⟨_, rfl⟩
        rw [hV]
        have RA9 := Lib.hid ((show W9.heap[w.heap.size]? = W8.heap[w.heap.size]? by rw [← hV]; exact Below.heap_setCell _ _ _ _ HNa.out.1).trans RA8.out)
        have RB9 := Lib.hid ((show W9.heap[w1.heap.size]? = W8.heap[w1.heap.size]? by rw [← hV]; exact Below.heap_setCell _ _ _ _ HNa.out.2).trans RB8.out)
        have RC9 : Hid (W9.heap[W7.heap.size]? = some (.cells #[.string Q, .int .i64 s', .slice bo n' cb, .slice so m sc] 35 (0, 0))) := Lib.hid (by rw [← hV]; exact row_set RC8.out _)
        have B9 : Hid (Below w.heap.size w W9) := Lib.hid (by rw [← hV]; exact B8.out.setCell (p := ⟨W7.heap.size, 3, none⟩) HBc.out _)
        clear hW hV xs3 x0' x1' x2' x3' z0 z1 z2 z3 zf
        refine (CE.out _ B9.out).mono ?_
        rintro r W10 ⟨rfl, hb⟩
        simp only []
        have RA10 := Lib.hid ((hb.block _ (Array.getElem?_eq_some_iff.1 RA9.out).1).trans RA9.out)
        have RB10 := Lib.hid ((hb.block _ (Array.getElem?_eq_some_iff.1 RB9.out).1).trans RB9.out)
        have B10 := Lib.hid (B9.out.trans (hb.mono B9.out.size))
        clear x0 x1 x2 x3 y0 y1 y2 y3
        obtain ⟨x0, x1, x2, x3, -⟩ := cell4 RA10.out
        obtain ⟨y0, y1, y2, y3, -⟩ := cell4 RB10.out
        have RC10 := Lib.hid ((hb.block _ (Array.getElem?_eq_some_iff.1 RC9.out).1).trans RC9.out)
        clear hb
        obtain ⟨z0, z1, z2, z3, -⟩ := cell4 RC10.out
        repeat (first | (go_at_call 15; fail) | go_skip | go_guarded | go_step | go_upon)
        refine (CF.out _ B10.out).mono ?_
        rintro r W11 ⟨rfl, hb⟩
        simp only []
        have RA11 := Lib.hid ((hb.block _ (Array.getElem?_eq_some_iff.1 RA10.out).1).trans RA10.out)
        have RB11 := Lib.hid ((hb.block _ (Array.getElem?_eq_some_iff.1 RB10.out).1).trans RB10.out)
        have B11 := Lib.hid (B10.out.trans (hb.mono B10.out.size))
        clear x0 x1 x2 x3 y0 y1 y2 y3
        obtain ⟨x0, x1, x2, x3, -⟩ := cell4 RA11.out
        obtain ⟨y0, y1, y2, y3, -⟩ := cell4 RB11.out
        clear hb
        repeat (first | go_skip | go_guarded | go_step | go_upon)
        go_ret
        exact ⟨by first | rfl | simp, B11.out⟩
end AL
end Go.Proofs.YtiggdojppfblkaaGreatDoor
