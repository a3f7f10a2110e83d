/- Layer 9: the walk of ArchWrites. -/
import Derived.Test.YtiggdojppfblkaaGreatDoorArAw
import Derived.Test.YtiggdojppfblkaaGreatDoorArMat
import Derived.Test.YtiggdojppfblkaaGreatDoorArR9
import Derived.Test.YtiggdojppfblkaaGreatDoorArRe
import Derived.Test.YtiggdojppfblkaaGreatDoorArRm
namespace Go.Proofs.YtiggdojppfblkaaGreatDoor
open Go.RowKit Go.Lib Go.BigFrame
namespace AL
open OM TP TM TG TW TR AP AR AD

theorem check_is {a : Ar} {b : Bool} (h : rightA a = b) : checkA a = if b = true then 0 else 90 := by unfold checkA; rw [h]
theorem match_self (a : Ar) : matchA a a = rightA a := by
  unfold matchA
  simp
set_option maxRecDepth 100000 in
set_option maxHeartbeats 12800000 in
theorem writes_any (a b : Ar) (ao : Option Addr) (ca : Nat) (so : Option Addr) (sc : Nat) (bo : Option Addr) (cb : Nat) (uo : Option Addr) (tc : Nat) (w : World) (he : Env w) (h : ArAt w a ao ca so) (k : ArAt w b bo cb uo) (hsa : Small a.tree) (hsb : Small b.tree) :
    Calls Tryz.prog 4 #[arVal a ao ca so sc, arVal b bo cb uo tc] w fun r w' => r = .returned (.bool true) ∧ Below w.heap.size w w' := by
  have CW : Hid (∀ W, Below w.heap.size w W → Calls Tryz.prog 9 #[] W fun r w' => r = .returned (.bool true) ∧ Below W.heap.size W w') := Lib.hid (fun W hW => awake_any W (he.below hW))
  have CE : Hid (∀ W, Below w.heap.size w W → Calls Tryz.prog 15 #[arVal a ao ca so sc] W fun r w' => r = .returned (.tuple #[txt (encL a).1, .int .i64 ((encL a).2 : Nat)]) ∧ Below W.heap.size W w') := Lib.hid (fun W hW => encode_any a ao ca so sc W (he.below hW) (h.below hW))
  have CF : Hid (∀ W, Below w.heap.size w W → Calls Tryz.prog 16 #[arVal a ao ca so sc] W fun r w' => r = .returned (.tuple #[txt (encL a).1, .int .i64 ((encL a).2 : Nat)]) ∧ Below W.heap.size W w') := Lib.hid (fun W hW => rencode_any a ao ca so sc W (h.below hW) hsa)
  have CA : Hid (∀ W, Below w.heap.size w W → Calls Tryz.prog 17 #[arVal a ao ca so sc] W fun r w' => r = .returned (.int .i64 (checkA a : Nat)) ∧ Below W.heap.size W w') := Lib.hid (fun W hW => acheck_any a ao ca so sc W (he.below hW).nf (h.below hW))
  have CB : Hid (∀ W, Below w.heap.size w W → Calls Tryz.prog 18 #[arVal a ao ca so sc] W fun r w' => r = .returned (.int .i64 (checkA a : Nat)) ∧ Below W.heap.size W w') := Lib.hid (fun W hW => rcheck9_any a ao ca so sc W (h.below hW) hsa)
  have CM : Hid (∀ W, Below w.heap.size w W → Calls Tryz.prog 19 #[arVal a ao ca so sc, arVal b bo cb uo tc] W fun r w' => r = .returned (.bool (matchA a b)) ∧ Below W.heap.size W w') := Lib.hid (fun W hW => match_any a b ao ca so sc bo cb uo tc W (he.below hW).nf (h.below hW) (k.below hW))
  have CN : Hid (∀ W, Below w.heap.size w W → Calls Tryz.prog 20 #[arVal a ao ca so sc, arVal b bo cb uo tc] W fun r w' => r = .returned (.bool (matchA a b)) ∧ Below W.heap.size W w') := Lib.hid (fun W hW => rmatch9_any a b ao ca so sc bo cb uo tc W (h.below hW) (k.below hW) hsa hsb)
  have CO : Hid (∀ W, Below w.heap.size w W → Calls Tryz.prog 19 #[arVal a ao ca so sc, arVal a ao ca so sc] W fun r w' => r = .returned (.bool (rightA a)) ∧ Below W.heap.size W w') := Lib.hid (fun W hW => match_self a ▸ match_any a a ao ca so sc ao ca so sc W (he.below hW).nf (h.below hW) (h.below hW))
  have HAt : Hid (∀ W, Below w.heap.size w W → ArAt W a ao ca so) := Lib.hid (fun W hW => h.below hW)
  have HFit := Lib.hid h.fit
  have HE := Lib.hid he
  unfold arVal txt at CE CF CA CB CM CN CO
  unfold arVal txt
  obtain ⟨P, hP⟩ : ∃ P : ByteArray, ⟨a.pair.toArray⟩ = P := ⟨_, rfl⟩
  obtain ⟨Q, hQ⟩ : ∃ P : ByteArray, ⟨b.pair.toArray⟩ = P := ⟨_, rfl⟩
  obtain ⟨n, hn⟩ : ∃ n, a.tree.length = n := ⟨_, rfl⟩
  obtain ⟨m, hm⟩ : ∃ n, a.stamps.length = n := ⟨_, rfl⟩
  obtain ⟨s, hs⟩ : ∃ n, a.serial = n := ⟨_, rfl⟩
  obtain ⟨n', hn'⟩ : ∃ n, b.tree.length = n := ⟨_, rfl⟩
  obtain ⟨m', hm'⟩ : ∃ n, b.stamps.length = n := ⟨_, rfl⟩
  obtain ⟨s', hs'⟩ : ∃ n, b.serial = n := ⟨_, rfl⟩
  obtain ⟨T, hT⟩ : ∃ T : ByteArray, ⟨(encL a).1.toArray⟩ = T := ⟨_, rfl⟩
  obtain ⟨ez, hez⟩ : ∃ z, (encL a).2 = z := ⟨_, rfl⟩
  obtain ⟨mb, hmb⟩ : ∃ z, matchA a b = z := ⟨_, rfl⟩
  rw [hP, hn, hm, hs, hT, hez] at CE CF
  rw [hP, hn, hm, hs] at CA CB CO
  rw [hP, hQ, hn, hm, hs, hn', hm', hs', hmb] at CM CN
  rw [hP, hQ, hn, hm, hs, hn', hm', hs']
  have HP := Lib.hid hP
  have HN := Lib.hid hn
  have HM := Lib.hid hm
  have HS := Lib.hid hs
  have hmm : (mb != mb) = false := by cases mb <;> rfl
  obtain ⟨w1, hw1⟩ : ∃ w1, w.alloc (.cells #[.string P, .int .i64 s, .slice ao n ca, .slice so m sc] 35) = w1 := ⟨_, rfl⟩
  have b1 : Below w.heap.size w w1 := by rw [← hw1]; exact (Below.refl _ _).alloc (Nat.le_refl _) _
  have r1 : w1.heap[w.heap.size]? = some (.cells #[.string P, .int .i64 s, .slice ao n ca, .slice so m sc] 35 (0, 0)) := by rw [← hw1]; exact heap_alloc_new w _
  obtain ⟨W2, hw2⟩ : ∃ w2, w1.alloc (.cells #[.string Q, .int .i64 s', .slice bo n' cb, .slice uo m' tc] 35) = w2 := ⟨_, rfl⟩
  have b2 : Below w1.heap.size w1 W2 := by rw [← hw2]; exact (Below.refl _ _).alloc (Nat.le_refl _) _
  have r2 : W2.heap[w1.heap.size]? = some (.cells #[.string Q, .int .i64 s', .slice bo n' cb, .slice uo m' tc] 35 (0, 0)) := by rw [← hw2]; exact heap_alloc_new w1 _
  have RA2 := Lib.hid ((b2.block _ (Array.getElem?_eq_some_iff.1 r1).1).trans r1)
  have RB2 := Lib.hid r2
  have B2 := Lib.hid (b1.trans (b2.mono b1.size))
  obtain ⟨x0, x1, x2, x3, -⟩ := cell4 RA2.out
  obtain ⟨y0, y1, y2, y3, -⟩ := cell4 RB2.out
  obtain ⟨q, hq⟩ : ∃ x, rightA a = x := ⟨_, rfl⟩
  have hck := check_is hq
  rw [hq] at CO
  clear hP hQ hn hm hs hn' hm' hs' b1 b2 r1 r2 h k he hmb
  cases q with
  | false =>
    have e2 : encL a = ([], 90) := by unfold encL; rw [hq]; rfl
    have hTe : T = ⟨#[]⟩ := by rw [← hT, e2]
    have hz9 : ez = 90 := by rw [← hez, e2]
    have hc9 : checkA a = 90 := by rw [hck]; rfl
    rw [hc9] at CA CB
    subst hz9
    subst hTe
    clear e2 hez hq hT hck hc9
    go_enter Tryz.func4, Tryz.ntmps4
    repeat (first | (go_at_call 9; fail) | go_skip | go_guarded | go_step | go_upon)
    refine (CW.out _ B2.out).mono ?_
    rintro r W3 ⟨rfl, hb⟩
    simp only []
    have RA3 := Lib.hid ((hb.block _ (Array.getElem?_eq_some_iff.1 RA2.out).1).trans RA2.out)
    have RB3 := Lib.hid ((hb.block _ (Array.getElem?_eq_some_iff.1 RB2.out).1).trans RB2.out)
    have B3 := Lib.hid (B2.out.trans (hb.mono B2.out.size))
    clear hb x0 x1 x2 x3 y0 y1 y2 y3
    obtain ⟨x0, x1, x2, x3, -⟩ := cell4 RA3.out
    obtain ⟨y0, y1, y2, y3, -⟩ := cell4 RB3.out
    repeat (first | (go_at_call 15; fail) | go_skip | go_guarded | go_step | go_upon)
    refine (CE.out _ B3.out).mono ?_
    rintro r W4 ⟨rfl, hb⟩
    simp only []
    have RA4 := Lib.hid ((hb.block _ (Array.getElem?_eq_some_iff.1 RA3.out).1).trans RA3.out)
    have RB4 := Lib.hid ((hb.block _ (Array.getElem?_eq_some_iff.1 RB3.out).1).trans RB3.out)
    have B4 := Lib.hid (B3.out.trans (hb.mono B3.out.size))
    clear hb x0 x1 x2 x3 y0 y1 y2 y3
    obtain ⟨x0, x1, x2, x3, -⟩ := cell4 RA4.out
    obtain ⟨y0, y1, y2, y3, -⟩ := cell4 RB4.out
    repeat (first | (go_at_call 16; fail) | go_skip | go_guarded | go_step | go_upon)
    refine (CF.out _ B4.out).mono ?_
    rintro r W5 ⟨rfl, hb⟩
    simp only []
    have RA5 := Lib.hid ((hb.block _ (Array.getElem?_eq_some_iff.1 RA4.out).1).trans RA4.out)
    have RB5 := Lib.hid ((hb.block _ (Array.getElem?_eq_some_iff.1 RB4.out).1).trans RB4.out)
    have B5 := Lib.hid (B4.out.trans (hb.mono B4.out.size))
    clear hb x0 x1 x2 x3 y0 y1 y2 y3
    obtain ⟨x0, x1, x2, x3, -⟩ := cell4 RA5.out
    obtain ⟨y0, y1, y2, y3, -⟩ := cell4 RB5.out
    clear x0 x1 x2 x3 y0 y1 y2 y3
    repeat (first | go_skip | go_guarded | go_step | go_upon)
    have R6 : Hid (W5.drew.heap[w.heap.size]? = some (.cells #[.string P, .int .i64 s, .slice ao n ca, .slice so m sc] 35 (0, 0)) ∧ W5.drew.heap[w1.heap.size]? = some (.cells #[.string Q, .int .i64 s', .slice bo n' cb, .slice uo m' tc] 35 (0, 0))) := Lib.hid ⟨RA5.out, RB5.out⟩
    have B6 : Hid (Below w.heap.size w W5.drew) := Lib.hid B5.out.drew
    refine wp_region_noPanic ?_
    with_reducible refine QT.region_mix (S := fun W => W.heap[w.heap.size]? = some (.cells #[.string P, .int .i64 s, .slice ao n ca, .slice so m sc] 35 (0, 0)) ∧ W.heap[w1.heap.size]? = some (.cells #[.string Q, .int .i64 s', .slice bo n' cb, .slice uo m' tc] 35 (0, 0))) [(true, 0), (true, 1), (true, 2), (true, 3), (true, 4), (true, 5), (true, 6), (true, 7), (true, 8), (true, 9), (true, 11), (false, 10), (false, 12), (true, 13), (true, 14), (true, 15), (true, 16), (true, 17), (true, 19), (true, 20), (false, 18), (false, 21), (true, 22), (true, 23), (true, 24), (true, 25), (true, 26), (true, 28), (false, 27), (false, 29), (true, 30), (true, 31)] 32 (by kernel_rfl) (by kernel_rfl) ?_ ?_ ?_
    · exact fun _ _ _ _ _ h => h
    · exact R6.out
    intro _
    simp only [QT.pickM, List.filterMap_cons, List.filterMap_nil, List.getElem?_cons_succ, List.getElem?_cons_zero, Option.map_some, List.drop_succ_cons, List.drop_zero]
    refine QT.wpMix_take (_) (by rfl) (by intro w' hSw; go_simp; first | done | rfl | simp [hmm]) ?_
    try simp only [Act.put, List.setIfInBounds_toArray, List.set_cons_zero, List.set_cons_succ]
    refine QT.wpMix_take (_) (by rfl) (by intro w' hSw; go_simp; first | done | rfl | simp [hmm]) ?_
    try simp only [Act.put, List.setIfInBounds_toArray, List.set_cons_zero, List.set_cons_succ]
    refine QT.wpMix_take (.bool false) (by rfl) (by intro w' hSw; go_simp; first | done | rfl | simp [hmm]) ?_
    try simp only [Act.put, List.setIfInBounds_toArray, List.set_cons_zero, List.set_cons_succ]
    refine QT.wpMix_take (.bool false) (by rfl) (by intro w' hSw; go_simp; first | done | rfl | simp [hmm]) ?_
    try simp only [Act.put, List.setIfInBounds_toArray, List.set_cons_zero, List.set_cons_succ]
    refine QT.wpMix_take (_) (by rfl) (by intro w' hSw; go_simp; first | done | rfl | simp [hmm]) ?_
    try simp only [Act.put, List.setIfInBounds_toArray, List.set_cons_zero, List.set_cons_succ]
    refine QT.wpMix_take (_) (by rfl) (by intro w' hSw; go_simp; first | done | rfl | simp [hmm]) ?_
    try simp only [Act.put, List.setIfInBounds_toArray, List.set_cons_zero, List.set_cons_succ]
    refine QT.wpMix_take (.bool false) (by rfl) (by intro w' hSw; go_simp; first | done | rfl | simp [hmm]) ?_
    try simp only [Act.put, List.setIfInBounds_toArray, List.set_cons_zero, List.set_cons_succ]
    refine QT.wpMix_take (.bool false) (by rfl) (by intro w' hSw; go_simp; first | done | rfl | simp [hmm]) ?_
    try simp only [Act.put, List.setIfInBounds_toArray, List.set_cons_zero, List.set_cons_succ]
    refine QT.wpMix_take (.bool false) (by rfl) (by intro w' hSw; go_simp; first | done | rfl | simp [hmm]) ?_
    try simp only [Act.put, List.setIfInBounds_toArray, List.set_cons_zero, List.set_cons_succ]
    refine QT.wpMix_take (_) (by rfl) (by intro w' hSw; obtain ⟨x0, x1, x2, x3, -⟩ := cell4 hSw.1; obtain ⟨y0, y1, y2, y3, -⟩ := cell4 hSw.2; go_simp; first | done | rfl | simp [hmm]) ?_
    try simp only [Act.put, List.setIfInBounds_toArray, List.set_cons_zero, List.set_cons_succ]
    refine QT.wpMix_take (_) (by rfl) (by intro w' hSw; obtain ⟨x0, x1, x2, x3, -⟩ := cell4 hSw.1; obtain ⟨y0, y1, y2, y3, -⟩ := cell4 hSw.2; go_simp; first | done | rfl | simp [hmm]) ?_
    try simp only [Act.put, List.setIfInBounds_toArray, List.set_cons_zero, List.set_cons_succ]
    intro K' hK
    rw [if_pos (by rfl)]
    go_simp
    refine (CA.out _ B6.out).mono ?_
    rintro r W7 ⟨rfl, hb⟩
    simp only []
    have B7 := Lib.hid (B6.out.trans (hb.mono B6.out.size))
    have R7 := Lib.hid (And.intro (row_kept R6.out.1 hb) (row_kept R6.out.2 hb))
    refine hK.out _ _ R7.out ?_
    clear hK K' hb
    try simp only [Act.put, List.setIfInBounds_toArray, List.set_cons_zero, List.set_cons_succ]
    intro K' hK
    rw [if_pos (by rfl)]
    go_simp
    refine (CB.out _ B7.out).mono ?_
    rintro r W8 ⟨rfl, hb⟩
    simp only []
    have B8 := Lib.hid (B7.out.trans (hb.mono B7.out.size))
    have R8 := Lib.hid (And.intro (row_kept R7.out.1 hb) (row_kept R7.out.2 hb))
    refine hK.out _ _ R8.out ?_
    clear hK K' hb
    try simp only [Act.put, List.setIfInBounds_toArray, List.set_cons_zero, List.set_cons_succ]
    refine QT.wpMix_take (.bool false) (by rfl) (by intro w' hSw; go_simp; first | done | rfl | simp [hmm]) ?_
    try simp only [Act.put, List.setIfInBounds_toArray, List.set_cons_zero, List.set_cons_succ]
    refine QT.wpMix_take (.bool false) (by rfl) (by intro w' hSw; go_simp; first | done | rfl | simp [hmm]) ?_
    try simp only [Act.put, List.setIfInBounds_toArray, List.set_cons_zero, List.set_cons_succ]
    refine QT.wpMix_take (.bool false) (by rfl) (by intro w' hSw; go_simp; first | done | rfl | simp [hmm]) ?_
    try simp only [Act.put, List.setIfInBounds_toArray, List.set_cons_zero, List.set_cons_succ]
    refine QT.wpMix_take (_) (by rfl) (by intro w' hSw; obtain ⟨x0, x1, x2, x3, -⟩ := cell4 hSw.1; obtain ⟨y0, y1, y2, y3, -⟩ := cell4 hSw.2; go_simp; first | done | rfl | simp [hmm]) ?_
    try simp only [Act.put, List.setIfInBounds_toArray, List.set_cons_zero, List.set_cons_succ]
    refine QT.wpMix_take (_) (by rfl) (by intro w' hSw; obtain ⟨x0, x1, x2, x3, -⟩ := cell4 hSw.1; obtain ⟨y0, y1, y2, y3, -⟩ := cell4 hSw.2; go_simp; first | done | rfl | simp [hmm]) ?_
    try simp only [Act.put, List.setIfInBounds_toArray, List.set_cons_zero, List.set_cons_succ]
    refine QT.wpMix_take (_) (by rfl) (by intro w' hSw; obtain ⟨x0, x1, x2, x3, -⟩ := cell4 hSw.1; obtain ⟨y0, y1, y2, y3, -⟩ := cell4 hSw.2; go_simp; first | done | rfl | simp [hmm]) ?_
    try simp only [Act.put, List.setIfInBounds_toArray, List.set_cons_zero, List.set_cons_succ]
    refine QT.wpMix_take (_) (by rfl) (by intro w' hSw; obtain ⟨x0, x1, x2, x3, -⟩ := cell4 hSw.1; obtain ⟨y0, y1, y2, y3, -⟩ := cell4 hSw.2; go_simp; first | done | rfl | simp [hmm]) ?_
    try simp only [Act.put, List.setIfInBounds_toArray, List.set_cons_zero, List.set_cons_succ]
    intro K' hK
    rw [if_pos (by rfl)]
    go_simp
    refine (CM.out _ B8.out).mono ?_
    rintro r W9 ⟨rfl, hb⟩
    simp only []
    have B9 := Lib.hid (B8.out.trans (hb.mono B8.out.size))
    have R9 := Lib.hid (And.intro (row_kept R8.out.1 hb) (row_kept R8.out.2 hb))
    refine hK.out _ _ R9.out ?_
    clear hK K' hb
    try simp only [Act.put, List.setIfInBounds_toArray, List.set_cons_zero, List.set_cons_succ]
    intro K' hK
    rw [if_pos (by rfl)]
    go_simp
    refine (CN.out _ B9.out).mono ?_
    rintro r W10 ⟨rfl, hb⟩
    simp only []
    have B10 := Lib.hid (B9.out.trans (hb.mono B9.out.size))
    have R10 := Lib.hid (And.intro (row_kept R9.out.1 hb) (row_kept R9.out.2 hb))
    refine hK.out _ _ R10.out ?_
    clear hK K' hb
    try simp only [Act.put, List.setIfInBounds_toArray, List.set_cons_zero, List.set_cons_succ]
    refine QT.wpMix_take (.bool false) (by rfl) (by intro w' hSw; go_simp; first | done | rfl | simp [hmm]) ?_
    try simp only [Act.put, List.setIfInBounds_toArray, List.set_cons_zero, List.set_cons_succ]
    refine QT.wpMix_take (.bool false) (by rfl) (by intro w' hSw; go_simp; first | done | rfl | simp [hmm]) ?_
    try simp only [Act.put, List.setIfInBounds_toArray, List.set_cons_zero, List.set_cons_succ]
    refine QT.wpMix_take (.bool false) (by rfl) (by intro w' hSw; go_simp; first | done | rfl | simp [hmm]) ?_
    try simp only [Act.put, List.setIfInBounds_toArray, List.set_cons_zero, List.set_cons_succ]
    refine QT.wpMix_take (_) (by rfl) (by intro w' hSw; obtain ⟨x0, x1, x2, x3, -⟩ := cell4 hSw.1; obtain ⟨y0, y1, y2, y3, -⟩ := cell4 hSw.2; go_simp; first | done | rfl | simp [hmm]) ?_
    try simp only [Act.put, List.setIfInBounds_toArray, List.set_cons_zero, List.set_cons_succ]
    refine QT.wpMix_take (_) (by rfl) (by intro w' hSw; obtain ⟨x0, x1, x2, x3, -⟩ := cell4 hSw.1; obtain ⟨y0, y1, y2, y3, -⟩ := cell4 hSw.2; go_simp; first | done | rfl | simp [hmm]) ?_
    try simp only [Act.put, List.setIfInBounds_toArray, List.set_cons_zero, List.set_cons_succ]
    refine QT.wpMix_take (_) (by rfl) (by intro w' hSw; obtain ⟨x0, x1, x2, x3, -⟩ := cell4 hSw.1; obtain ⟨y0, y1, y2, y3, -⟩ := cell4 hSw.2; go_simp; first | done | rfl | simp [hmm]) ?_
    try simp only [Act.put, List.setIfInBounds_toArray, List.set_cons_zero, List.set_cons_succ]
    intro K' hK
    rw [if_pos (by rfl)]
    go_simp
    refine (CO.out _ B10.out).mono ?_
    rintro r W11 ⟨rfl, hb⟩
    simp only []
    have B11 := Lib.hid (B10.out.trans (hb.mono B10.out.size))
    have R11 := Lib.hid (And.intro (row_kept R10.out.1 hb) (row_kept R10.out.2 hb))
    refine hK.out _ _ R11.out ?_
    clear hK K' hb
    try simp only [Act.put, List.setIfInBounds_toArray, List.set_cons_zero, List.set_cons_succ]
    intro K' hK
    rw [if_pos (by rfl)]
    go_simp
    refine (CB.out _ B11.out).mono ?_
    rintro r W12 ⟨rfl, hb⟩
    simp only []
    have B12 := Lib.hid (B11.out.trans (hb.mono B11.out.size))
    have R12 := Lib.hid (And.intro (row_kept R11.out.1 hb) (row_kept R11.out.2 hb))
    refine hK.out _ _ R12.out ?_
    clear hK K' hb
    try simp only [Act.put, List.setIfInBounds_toArray, List.set_cons_zero, List.set_cons_succ]
    refine QT.wpMix_take (.bool false) (by rfl) (by intro w' hSw; go_simp; first | done | rfl | simp [hmm]) ?_
    try simp only [Act.put, List.setIfInBounds_toArray, List.set_cons_zero, List.set_cons_succ]
    refine QT.wpMix_take (.bool false) (by rfl) (by intro w' hSw; go_simp; first | done | rfl | simp [hmm]) ?_
    try simp only [Act.put, List.setIfInBounds_toArray, List.set_cons_zero, List.set_cons_succ]
    refine QT.wpMix_nil ?_
    try simp only [Act.put, List.setIfInBounds_toArray, List.set_cons_zero, List.set_cons_succ]
    have RA12 := Lib.hid R12.out.1
    have RB12 := Lib.hid R12.out.2
    obtain ⟨x0, x1, x2, x3, -⟩ := cell4 RA12.out
    obtain ⟨y0, y1, y2, y3, -⟩ := cell4 RB12.out
    repeat (first | go_skip | go_guarded | go_step | go_upon)
    refine NoPanic.normal ?_
    repeat (first | go_skip | go_guarded | go_step | go_upon)
    go_ret
    exact ⟨by first | rfl | simp, B12.out⟩
  | true =>
    have hR := (right_iff a).1 hq
    have HPl := Lib.hid (pay_len hR HFit.out)
    have e2 : encL a = (RP.packL (payL a), 0) := by unfold encL; rw [hq]; rfl
    have hz0 : ez = 0 := by rw [← hez, e2]
    have hc0 : checkA a = 0 := by rw [hck]; rfl
    rw [hc0] at CA CB
    subst hz0
    have hTd : T = ⟨(RP.packL (payL a)).toArray⟩ := by rw [← hT, e2]
    have HD : Hid (decL (RP.packL (payL a)) = (a, 0)) := Lib.hid (dec_enc hR HFit.out)
    have CD : Hid (∀ W, Below w.heap.size w W → Calls Tryz.prog 21 #[.string T] W (DecPost (RP.packL (payL a)) W)) := Lib.hid (fun W hW => by
      have h := decode_any (RP.packL (payL a)) W (HE.out.below hW) (by rw [RP.pack_len]; have := HPl.out; unfold RP.MaxP at this; omega)
      unfold txt at h
      rw [← hTd] at h
      exact h)
    clear e2 hez hq hT hck hc0 hR hTd
    go_enter Tryz.func4, Tryz.ntmps4
    repeat (first | (go_at_call 9; fail) | go_skip | go_guarded | go_step | go_upon)
    refine (CW.out _ B2.out).mono ?_
    rintro r W3 ⟨rfl, hb⟩
    simp only []
    have RA3 := Lib.hid ((hb.block _ (Array.getElem?_eq_some_iff.1 RA2.out).1).trans RA2.out)
    have RB3 := Lib.hid ((hb.block _ (Array.getElem?_eq_some_iff.1 RB2.out).1).trans RB2.out)
    have B3 := Lib.hid (B2.out.trans (hb.mono B2.out.size))
    clear hb x0 x1 x2 x3 y0 y1 y2 y3
    obtain ⟨x0, x1, x2, x3, -⟩ := cell4 RA3.out
    obtain ⟨y0, y1, y2, y3, -⟩ := cell4 RB3.out
    repeat (first | (go_at_call 15; fail) | go_skip | go_guarded | go_step | go_upon)
    refine (CE.out _ B3.out).mono ?_
    rintro r W4 ⟨rfl, hb⟩
    simp only []
    have RA4 := Lib.hid ((hb.block _ (Array.getElem?_eq_some_iff.1 RA3.out).1).trans RA3.out)
    have RB4 := Lib.hid ((hb.block _ (Array.getElem?_eq_some_iff.1 RB3.out).1).trans RB3.out)
    have B4 := Lib.hid (B3.out.trans (hb.mono B3.out.size))
    clear hb x0 x1 x2 x3 y0 y1 y2 y3
    obtain ⟨x0, x1, x2, x3, -⟩ := cell4 RA4.out
    obtain ⟨y0, y1, y2, y3, -⟩ := cell4 RB4.out
    repeat (first | (go_at_call 16; fail) | go_skip | go_guarded | go_step | go_upon)
    refine (CF.out _ B4.out).mono ?_
    rintro r W5 ⟨rfl, hb⟩
    simp only []
    have RA5 := Lib.hid ((hb.block _ (Array.getElem?_eq_some_iff.1 RA4.out).1).trans RA4.out)
    have RB5 := Lib.hid ((hb.block _ (Array.getElem?_eq_some_iff.1 RB4.out).1).trans RB4.out)
    have B5 := Lib.hid (B4.out.trans (hb.mono B4.out.size))
    clear hb x0 x1 x2 x3 y0 y1 y2 y3
    obtain ⟨x0, x1, x2, x3, -⟩ := cell4 RA5.out
    obtain ⟨y0, y1, y2, y3, -⟩ := cell4 RB5.out
    clear x0 x1 x2 x3 y0 y1 y2 y3
    repeat (first | go_skip | go_guarded | go_step | go_upon)
    have R6 : Hid (W5.drew.heap[w.heap.size]? = some (.cells #[.string P, .int .i64 s, .slice ao n ca, .slice so m sc] 35 (0, 0)) ∧ W5.drew.heap[w1.heap.size]? = some (.cells #[.string Q, .int .i64 s', .slice bo n' cb, .slice uo m' tc] 35 (0, 0))) := Lib.hid ⟨RA5.out, RB5.out⟩
    have B6 : Hid (Below w.heap.size w W5.drew) := Lib.hid B5.out.drew
    refine wp_region_noPanic ?_
    with_reducible refine QT.region_mix (S := fun W => W.heap[w.heap.size]? = some (.cells #[.string P, .int .i64 s, .slice ao n ca, .slice so m sc] 35 (0, 0)) ∧ W.heap[w1.heap.size]? = some (.cells #[.string Q, .int .i64 s', .slice bo n' cb, .slice uo m' tc] 35 (0, 0))) [(true, 0), (true, 1), (true, 2), (true, 3), (true, 4), (true, 5), (true, 6), (true, 7), (true, 8), (true, 9), (true, 11), (false, 10), (false, 12), (true, 13), (true, 14), (true, 15), (true, 16), (true, 17), (true, 19), (true, 20), (false, 18), (false, 21), (true, 22), (true, 23), (true, 24), (true, 25), (true, 26), (true, 28), (false, 27), (false, 29), (true, 30), (true, 31)] 32 (by kernel_rfl) (by kernel_rfl) ?_ ?_ ?_
    · exact fun _ _ _ _ _ h => h
    · exact R6.out
    intro _
    simp only [QT.pickM, List.filterMap_cons, List.filterMap_nil, List.getElem?_cons_succ, List.getElem?_cons_zero, Option.map_some, List.drop_succ_cons, List.drop_zero]
    refine QT.wpMix_take (_) (by rfl) (by intro w' hSw; go_simp; first | done | rfl | simp [hmm]) ?_
    try simp only [Act.put, List.setIfInBounds_toArray, List.set_cons_zero, List.set_cons_succ]
    refine QT.wpMix_take (_) (by rfl) (by intro w' hSw; go_simp; first | done | rfl | simp [hmm]) ?_
    try simp only [Act.put, List.setIfInBounds_toArray, List.set_cons_zero, List.set_cons_succ]
    refine QT.wpMix_take (.bool false) (by rfl) (by intro w' hSw; go_simp; first | done | rfl | simp [hmm]) ?_
    try simp only [Act.put, List.setIfInBounds_toArray, List.set_cons_zero, List.set_cons_succ]
    refine QT.wpMix_take (.bool false) (by rfl) (by intro w' hSw; go_simp; first | done | rfl | simp [hmm]) ?_
    try simp only [Act.put, List.setIfInBounds_toArray, List.set_cons_zero, List.set_cons_succ]
    refine QT.wpMix_take (_) (by rfl) (by intro w' hSw; go_simp; first | done | rfl | simp [hmm]) ?_
    try simp only [Act.put, List.setIfInBounds_toArray, List.set_cons_zero, List.set_cons_succ]
    refine QT.wpMix_take (_) (by rfl) (by intro w' hSw; go_simp; first | done | rfl | simp [hmm]) ?_
    try simp only [Act.put, List.setIfInBounds_toArray, List.set_cons_zero, List.set_cons_succ]
    refine QT.wpMix_take (.bool false) (by rfl) (by intro w' hSw; go_simp; first | done | rfl | simp [hmm]) ?_
    try simp only [Act.put, List.setIfInBounds_toArray, List.set_cons_zero, List.set_cons_succ]
    refine QT.wpMix_take (.bool false) (by rfl) (by intro w' hSw; go_simp; first | done | rfl | simp [hmm]) ?_
    try simp only [Act.put, List.setIfInBounds_toArray, List.set_cons_zero, List.set_cons_succ]
    refine QT.wpMix_take (.bool false) (by rfl) (by intro w' hSw; go_simp; first | done | rfl | simp [hmm]) ?_
    try simp only [Act.put, List.setIfInBounds_toArray, List.set_cons_zero, List.set_cons_succ]
    refine QT.wpMix_take (_) (by rfl) (by intro w' hSw; obtain ⟨x0, x1, x2, x3, -⟩ := cell4 hSw.1; obtain ⟨y0, y1, y2, y3, -⟩ := cell4 hSw.2; go_simp; first | done | rfl | simp [hmm]) ?_
    try simp only [Act.put, List.setIfInBounds_toArray, List.set_cons_zero, List.set_cons_succ]
    refine QT.wpMix_take (_) (by rfl) (by intro w' hSw; obtain ⟨x0, x1, x2, x3, -⟩ := cell4 hSw.1; obtain ⟨y0, y1, y2, y3, -⟩ := cell4 hSw.2; go_simp; first | done | rfl | simp [hmm]) ?_
    try simp only [Act.put, List.setIfInBounds_toArray, List.set_cons_zero, List.set_cons_succ]
    intro K' hK
    rw [if_pos (by rfl)]
    go_simp
    refine (CA.out _ B6.out).mono ?_
    rintro r W7 ⟨rfl, hb⟩
    simp only []
    have B7 := Lib.hid (B6.out.trans (hb.mono B6.out.size))
    have R7 := Lib.hid (And.intro (row_kept R6.out.1 hb) (row_kept R6.out.2 hb))
    refine hK.out _ _ R7.out ?_
    clear hK K' hb
    try simp only [Act.put, List.setIfInBounds_toArray, List.set_cons_zero, List.set_cons_succ]
    intro K' hK
    rw [if_pos (by rfl)]
    go_simp
    refine (CB.out _ B7.out).mono ?_
    rintro r W8 ⟨rfl, hb⟩
    simp only []
    have B8 := Lib.hid (B7.out.trans (hb.mono B7.out.size))
    have R8 := Lib.hid (And.intro (row_kept R7.out.1 hb) (row_kept R7.out.2 hb))
    refine hK.out _ _ R8.out ?_
    clear hK K' hb
    try simp only [Act.put, List.setIfInBounds_toArray, List.set_cons_zero, List.set_cons_succ]
    refine QT.wpMix_take (.bool false) (by rfl) (by intro w' hSw; go_simp; first | done | rfl | simp [hmm]) ?_
    try simp only [Act.put, List.setIfInBounds_toArray, List.set_cons_zero, List.set_cons_succ]
    refine QT.wpMix_take (.bool false) (by rfl) (by intro w' hSw; go_simp; first | done | rfl | simp [hmm]) ?_
    try simp only [Act.put, List.setIfInBounds_toArray, List.set_cons_zero, List.set_cons_succ]
    refine QT.wpMix_take (.bool false) (by rfl) (by intro w' hSw; go_simp; first | done | rfl | simp [hmm]) ?_
    try simp only [Act.put, List.setIfInBounds_toArray, List.set_cons_zero, List.set_cons_succ]
    refine QT.wpMix_take (_) (by rfl) (by intro w' hSw; obtain ⟨x0, x1, x2, x3, -⟩ := cell4 hSw.1; obtain ⟨y0, y1, y2, y3, -⟩ := cell4 hSw.2; go_simp; first | done | rfl | simp [hmm]) ?_
    try simp only [Act.put, List.setIfInBounds_toArray, List.set_cons_zero, List.set_cons_succ]
    refine QT.wpMix_take (_) (by rfl) (by intro w' hSw; obtain ⟨x0, x1, x2, x3, -⟩ := cell4 hSw.1; obtain ⟨y0, y1, y2, y3, -⟩ := cell4 hSw.2; go_simp; first | done | rfl | simp [hmm]) ?_
    try simp only [Act.put, List.setIfInBounds_toArray, List.set_cons_zero, List.set_cons_succ]
    refine QT.wpMix_take (_) (by rfl) (by intro w' hSw; obtain ⟨x0, x1, x2, x3, -⟩ := cell4 hSw.1; obtain ⟨y0, y1, y2, y3, -⟩ := cell4 hSw.2; go_simp; first | done | rfl | simp [hmm]) ?_
    try simp only [Act.put, List.setIfInBounds_toArray, List.set_cons_zero, List.set_cons_succ]
    refine QT.wpMix_take (_) (by rfl) (by intro w' hSw; obtain ⟨x0, x1, x2, x3, -⟩ := cell4 hSw.1; obtain ⟨y0, y1, y2, y3, -⟩ := cell4 hSw.2; go_simp; first | done | rfl | simp [hmm]) ?_
    try simp only [Act.put, List.setIfInBounds_toArray, List.set_cons_zero, List.set_cons_succ]
    intro K' hK
    rw [if_pos (by rfl)]
    go_simp
    refine (CM.out _ B8.out).mono ?_
    rintro r W9 ⟨rfl, hb⟩
    simp only []
    have B9 := Lib.hid (B8.out.trans (hb.mono B8.out.size))
    have R9 := Lib.hid (And.intro (row_kept R8.out.1 hb) (row_kept R8.out.2 hb))
    refine hK.out _ _ R9.out ?_
    clear hK K' hb
    try simp only [Act.put, List.setIfInBounds_toArray, List.set_cons_zero, List.set_cons_succ]
    intro K' hK
    rw [if_pos (by rfl)]
    go_simp
    refine (CN.out _ B9.out).mono ?_
    rintro r W10 ⟨rfl, hb⟩
    simp only []
    have B10 := Lib.hid (B9.out.trans (hb.mono B9.out.size))
    have R10 := Lib.hid (And.intro (row_kept R9.out.1 hb) (row_kept R9.out.2 hb))
    refine hK.out _ _ R10.out ?_
    clear hK K' hb
    try simp only [Act.put, List.setIfInBounds_toArray, List.set_cons_zero, List.set_cons_succ]
    refine QT.wpMix_take (.bool false) (by rfl) (by intro w' hSw; go_simp; first | done | rfl | simp [hmm]) ?_
    try simp only [Act.put, List.setIfInBounds_toArray, List.set_cons_zero, List.set_cons_succ]
    refine QT.wpMix_take (.bool false) (by rfl) (by intro w' hSw; go_simp; first | done | rfl | simp [hmm]) ?_
    try simp only [Act.put, List.setIfInBounds_toArray, List.set_cons_zero, List.set_cons_succ]
    refine QT.wpMix_take (.bool false) (by rfl) (by intro w' hSw; go_simp; first | done | rfl | simp [hmm]) ?_
    try simp only [Act.put, List.setIfInBounds_toArray, List.set_cons_zero, List.set_cons_succ]
    refine QT.wpMix_take (_) (by rfl) (by intro w' hSw; obtain ⟨x0, x1, x2, x3, -⟩ := cell4 hSw.1; obtain ⟨y0, y1, y2, y3, -⟩ := cell4 hSw.2; go_simp; first | done | rfl | simp [hmm]) ?_
    try simp only [Act.put, List.setIfInBounds_toArray, List.set_cons_zero, List.set_cons_succ]
    refine QT.wpMix_take (_) (by rfl) (by intro w' hSw; obtain ⟨x0, x1, x2, x3, -⟩ := cell4 hSw.1; obtain ⟨y0, y1, y2, y3, -⟩ := cell4 hSw.2; go_simp; first | done | rfl | simp [hmm]) ?_
    try simp only [Act.put, List.setIfInBounds_toArray, List.set_cons_zero, List.set_cons_succ]
    refine QT.wpMix_take (_) (by rfl) (by intro w' hSw; obtain ⟨x0, x1, x2, x3, -⟩ := cell4 hSw.1; obtain ⟨y0, y1, y2, y3, -⟩ := cell4 hSw.2; go_simp; first | done | rfl | simp [hmm]) ?_
    try simp only [Act.put, List.setIfInBounds_toArray, List.set_cons_zero, List.set_cons_succ]
    intro K' hK
    rw [if_pos (by rfl)]
    go_simp
    refine (CO.out _ B10.out).mono ?_
    rintro r W11 ⟨rfl, hb⟩
    simp only []
    have B11 := Lib.hid (B10.out.trans (hb.mono B10.out.size))
    have R11 := Lib.hid (And.intro (row_kept R10.out.1 hb) (row_kept R10.out.2 hb))
    refine hK.out _ _ R11.out ?_
    clear hK K' hb
    try simp only [Act.put, List.setIfInBounds_toArray, List.set_cons_zero, List.set_cons_succ]
    intro K' hK
    rw [if_pos (by rfl)]
    go_simp
    refine (CB.out _ B11.out).mono ?_
    rintro r W12 ⟨rfl, hb⟩
    simp only []
    have B12 := Lib.hid (B11.out.trans (hb.mono B11.out.size))
    have R12 := Lib.hid (And.intro (row_kept R11.out.1 hb) (row_kept R11.out.2 hb))
    refine hK.out _ _ R12.out ?_
    clear hK K' hb
    try simp only [Act.put, List.setIfInBounds_toArray, List.set_cons_zero, List.set_cons_succ]
    refine QT.wpMix_take (.bool true) (by rfl) (by intro w' hSw; go_simp; first | done | rfl | simp [hmm]) ?_
    try simp only [Act.put, List.setIfInBounds_toArray, List.set_cons_zero, List.set_cons_succ]
    refine QT.wpMix_take (.bool false) (by rfl) (by intro w' hSw; go_simp; first | done | rfl | simp [hmm]) ?_
    try simp only [Act.put, List.setIfInBounds_toArray, List.set_cons_zero, List.set_cons_succ]
    refine QT.wpMix_nil ?_
    try simp only [Act.put, List.setIfInBounds_toArray, List.set_cons_zero, List.set_cons_succ]
    have RA12 := Lib.hid R12.out.1
    have RB12 := Lib.hid R12.out.2
    obtain ⟨x0, x1, x2, x3, -⟩ := cell4 RA12.out
    obtain ⟨y0, y1, y2, y3, -⟩ := cell4 RB12.out
    repeat (first | go_skip | go_guarded | go_step | go_upon)
    refine NoPanic.normal ?_
    repeat (first | (go_at_call 21; fail) | go_skip | go_guarded | go_step | go_upon)
    refine (CD.out _ B12.out).mono ?_
    rintro r W13 ⟨vt, vs, rfl, ho1, ho2, hb⟩
    simp only []
    have RA13 := Lib.hid (row_kept RA12.out hb)
    have B13 := Lib.hid (B12.out.trans (hb.mono B12.out.size))
    clear hb x0 x1 x2 x3 y0 y1 y2 y3
    rw [HD.out] at ho1 ho2
    obtain ⟨a1, c1, rfl, hwd⟩ := wide_own (ts := a.tree) ho1 rfl (HAt.out w (Below.refl _ _)).tree.long
    obtain ⟨a2, c2, rfl, hwm⟩ := widem_own (us := a.stamps) ho2 rfl
    rw [HD.out]
    unfold txt
    rw [HP.out, HN.out, HM.out, HS.out]
    obtain ⟨w7, hw7⟩ : ∃ w7, W13.alloc (.cells #[.string P, .int .i64 s, .slice a1 n c1, .slice a2 m c2] 35) = w7 := ⟨_, rfl⟩
    have b7 : Below W13.heap.size W13 w7 := by rw [← hw7]; exact (Below.refl _ _).alloc (Nat.le_refl _) _
    have r7 : w7.heap[W13.heap.size]? = some (.cells #[.string P, .int .i64 s, .slice a1 n c1, .slice a2 m c2] 35 (0, 0)) := by rw [← hw7]; exact heap_alloc_new W13 _
    have B7 := Lib.hid (B13.out.trans (b7.mono B13.out.size))
    have RA14 := row_kept RA13.out b7
    have hS := rsame9_any a a ao ca so sc a1 c1 a2 c2 w7 (HAt.out w7 B7.out) ⟨hwd.below b7, hwm.below b7, (HAt.out w (Below.refl _ _)).pair, HFit.out⟩
    rw [decide_eq_true rfl] at hS
    unfold arVal txt at hS
    rw [HP.out, HN.out, HM.out, HS.out] at hS
    have HSm := Lib.hid hS
    obtain ⟨x0, x1, x2, x3, -⟩ := cell4 RA14
    obtain ⟨z0, z1, z2, z3, -⟩ := cell4 r7
    clear ho1 ho2 hwd hwm b7 r7 RA14 hS
    repeat (first | (go_at_call 22; refine HSm.out.mono ?_; rintro r w8 ⟨rfl, hb⟩; simp only []; have B8 := Lib.hid (Below.trans B7.out (hb.mono B7.out.size)); clear hb) | go_skip | go_guarded | go_step | go_upon)
    go_ret
    exact ⟨by first | rfl | simp, B8.out⟩
end AL
end Go.Proofs.YtiggdojppfblkaaGreatDoor
