/- Layer 9: the contracts of the program's right, Check, Match. -/
import Derived.Test.YtfkaackhikbbkaaGreatDoorArStamp
import Derived.Test.YtfkaackhikbbkaaGreatDoorArClone
namespace Go.Proofs.YtfkaackhikbbkaaGreatDoor
open Go.RowKit Go.Lib Go.BigFrame
namespace AR
open OM TP TM TG TW AP TR

structure WideM (w : World) (so : Option Addr) (us : List Sm) : Prop where
  lay : LayM w so us
  max : us.length ≤ maxLen
theorem WideM.below {w W : World} {so : Option Addr} {us : List Sm} (h : WideM w so us) (hb : Below w.heap.size w W) : WideM W so us := ⟨h.lay.below hb, h.max⟩
/-- An archive, as it lies. -/
structure ArAt (w : World) (a : Ar) (ao : Option Addr) (ca : Nat) (so : Option Addr) : Prop where
  tree : Wide w ao ca a.tree
  stamps : WideM w so a.stamps
  pair : a.pair.length ≤ maxLen
  fit : FitA a
theorem ArAt.below {w W : World} {a : Ar} {ao : Option Addr} {ca : Nat} {so : Option Addr} (h : ArAt w a ao ca so) (hb : Below w.heap.size w W) : ArAt W a ao ca so := ⟨h.tree.below hb, h.stamps.below hb, h.pair, h.fit⟩
def arVal (a : Ar) (ao : Option Addr) (ca : Nat) (so : Option Addr) (sc : Nat) : Value := .agg #[txt a.pair, .int .i64 a.serial, .slice ao a.tree.length ca, .slice so a.stamps.length sc]
theorem okS_any (l : List Sm) : l.all okS = !anyZ l := by
  unfold anyZ
  rw [List.not_any_eq_all_not]
  congr 1
  funext n
  simp
set_option maxRecDepth 100000 in
set_option maxHeartbeats 6400000 in
theorem right_any (a : Ar) (ao : Option Addr) (ca : Nat) (so : Option Addr) (sc : Nat) (w : World) (he : NF.Env w) (h : ArAt w a ao ca so) :
    Calls Tryz.prog 34 #[arVal a ao ca so sc] w fun r w' => r = .returned (.bool (rightA a)) ∧ Below w.heap.size w w' := by
  obtain ⟨p, s, ts, us⟩ := a
  obtain ⟨ht, hs, hp, _⟩ := h
  simp only at ht hs hp
  unfold arVal
  simp only
  obtain ⟨P, hP, hPd⟩ := txt_of p
  rw [hP]
  obtain ⟨w1, hw1e⟩ : ∃ w1, w.alloc (.cells #[.string P, .int .i64 s, .slice ao ts.length ca, .slice so us.length sc] 35) = w1 := ⟨_, rfl⟩
  have b0 : Below w.heap.size w w1 := by rw [← hw1e]; exact (Below.refl _ _).alloc (Nat.le_refl _) _
  obtain ⟨t0, t1, t2, t3⟩ := box4 w (.string P) (.int .i64 s) (.slice ao ts.length ca) (.slice so us.length sc) 35
  rw [hw1e] at t0 t1 t2 t3
  have hw1 : w.heap.size < w1.heap.size := by rw [← hw1e]; simp
  have B0 := Lib.hid b0
  have CB : Hid (∀ W, Below w.heap.size w W → Calls Tryz.prog 13 #[.slice ao ts.length ca] W fun r w' => r = .returned (.bool (bareB ts)) ∧ Below W.heap.size W w') := Lib.hid (fun W hW => isBare_any ao ca ts W (he.below hW) (ht.below hW))
  obtain ⟨bb, hbb⟩ : ∃ b, bareB ts = b := ⟨_, rfl⟩
  obtain ⟨bz, hbz⟩ : ∃ b, anyZ us = b := ⟨_, rfl⟩
  have hlt : bb = true → ts.length ≤ 1000 := fun e => by
    rw [← hbb] at e
    unfold bareB at e
    simp at e
    exact ((tree_iff ts).1 e.1).len
  have CF : Hid (bb = true ∧ us.length = ts.length → ∀ W, Below w.heap.size w W → Calls Tryz.prog 65 #[.slice so us.length sc, .func (.func 66) #[] #[]] W fun r w' => r = .returned (.bool bz) ∧ Below W.heap.size W w') := Lib.hid (fun hl W hW => by
    have := scontains_any so sc us W (hs.lay.below hW) (by have := hlt hl.1; omega)
    rw [hbz] at this
    exact this)
  obtain ⟨pl, hpl⟩ : ∃ n, p.length = n := ⟨_, rfl⟩
  obtain ⟨n, hn⟩ : ∃ n, ts.length = n := ⟨_, rfl⟩
  obtain ⟨m, hm⟩ : ∃ n, us.length = n := ⟨_, rfl⟩
  have hPs : P.size = pl := by rw [Lib.size_eq, hPd]; exact hpl
  have HV0 : Hid (rightA ⟨p, s, ts, us⟩ = (decide (pl ≠ 0) && decide (pl ≤ 64) && decide (0 ≤ s) && bb && decide (m = n) && !bz)) := Lib.hid (by
    unfold rightA
    have e : decide (p ≠ []) = decide (pl ≠ 0) := by rw [← hpl]; simp
    simp only []
    rw [e, hpl, hbb, hm, hn, okS_any, hbz])
  have hPe : (P.toList == ByteArray.toList ⟨#[]⟩) = decide (pl = 0) := by
    rw [Lib.toList_data, Lib.toList_data, hPd, ← hpl]
    cases p <;> simp
  have hPi : P.toList.isEmpty = decide (pl = 0) := by
    rw [Lib.toList_data, hPd, ← hpl]
    cases p <;> simp
  rw [hbb] at CB
  rw [hn] at CB CF t2 hw1e hlt ⊢
  rw [hm] at CF t3 hw1e ⊢
  have hpm : (pl : Int) ≤ 9223372036854775807 := by unfold maxLen at hp; omega
  have hnm : (n : Int) ≤ 9223372036854775807 := by have := ht.max; unfold maxLen at this; omega
  have hmm : (m : Int) ≤ 9223372036854775807 := by have := hs.max; unfold maxLen at this; omega
  have hpz : True := trivial
  clear ht hs hp hP hPd hbb hbz hpl hn hm b0 hlt
  by_cases x1 : pl = 0
  · have HV : Hid (rightA ⟨p, s, ts, us⟩ = false) := Lib.hid (by rw [HV0.out]; simp [x1])
    rw [decide_eq_true x1] at hPe hPi
    clear hpz he
    go_enter Tryz.func34, Tryz.ntmps34
    repeat (first | go_skip | go_guarded | go_step | go_upon)
    go_ret
    exact ⟨by rw [HV.out]; first | rfl | simp [hPe, hPi], B0.out⟩
  · rw [decide_eq_false x1] at hPe hPi
    by_cases x2 : pl ≤ 64
    · have x2z : (P.size : Int) ≤ 64 := by omega
      by_cases x3 : 0 ≤ s
      · cases bb with
        | false =>
          have HV : Hid (rightA ⟨p, s, ts, us⟩ = false) := Lib.hid (by rw [HV0.out]; simp)
          clear hpz he
          go_enter Tryz.func34, Tryz.ntmps34
          repeat (first | (go_at_call 13; refine (CB.out _ B0.out).mono ?_; rintro r w2 ⟨rfl, hb⟩; simp only []; have B2 := Lib.hid (Below.trans B0.out (hb.mono B0.out.size)); have u2 := (hb.cell (p := ⟨w.heap.size, 2, none⟩) hw1).trans t2; have u3 := (hb.cell (p := ⟨w.heap.size, 3, none⟩) hw1).trans t3; clear hb) | go_skip | go_guarded | go_step | go_upon)
          go_ret
          exact ⟨by rw [HV.out]; first | rfl | simp [hPe, hPi], B2.out⟩
        | true =>
          by_cases x4 : m = n
          · have HV : Hid (rightA ⟨p, s, ts, us⟩ = !bz) := Lib.hid (by rw [HV0.out]; simp [x1, x2, x3, x4])
            subst x4
            have HLen := Lib.hid (And.intro (rfl : true = true) (rfl : m = m))
            clear hpz he
            go_enter Tryz.func34, Tryz.ntmps34
            repeat (first | (go_at_call 13; refine (CB.out _ B0.out).mono ?_; rintro r w2 ⟨rfl, hb⟩; simp only []; have B2 := Lib.hid (Below.trans B0.out (hb.mono B0.out.size)); have u2 := (hb.cell (p := ⟨w.heap.size, 2, none⟩) hw1).trans t2; have u3 := (hb.cell (p := ⟨w.heap.size, 3, none⟩) hw1).trans t3; clear hb) | (go_at_call 65; refine (CF.out HLen.out _ B2.out).mono ?_; rintro r w3 ⟨rfl, hb⟩; simp only []; have B3 := Lib.hid (Below.trans B2.out (hb.mono B2.out.size)); clear hb) | go_skip | go_guarded | go_step | go_upon)
            go_ret
            exact ⟨by rw [HV.out]; first | rfl | simp [hPe, hPi], B3.out⟩
          · have x4z : ((m : Int) == (n : Int)) = false := by simp; omega
            have HV : Hid (rightA ⟨p, s, ts, us⟩ = false) := Lib.hid (by rw [HV0.out]; simp [x4])
            clear hpz he
            go_enter Tryz.func34, Tryz.ntmps34
            repeat (first | (go_at_call 13; refine (CB.out _ B0.out).mono ?_; rintro r w2 ⟨rfl, hb⟩; simp only []; have B2 := Lib.hid (Below.trans B0.out (hb.mono B0.out.size)); have u2 := (hb.cell (p := ⟨w.heap.size, 2, none⟩) hw1).trans t2; have u3 := (hb.cell (p := ⟨w.heap.size, 3, none⟩) hw1).trans t3; clear hb) | go_skip | go_guarded | go_step | go_upon)
            go_ret
            exact ⟨by rw [HV.out]; first | rfl | simp [hPe, hPi], B2.out⟩
      · have HV : Hid (rightA ⟨p, s, ts, us⟩ = false) := Lib.hid (by rw [HV0.out]; simp [x3])
        have x3z : decide (0 ≤ s) = false := decide_eq_false x3
        clear hpz he
        go_enter Tryz.func34, Tryz.ntmps34
        repeat (first | go_skip | go_guarded | go_step | go_upon)
        go_ret
        exact ⟨by rw [HV.out]; first | rfl | simp [hPe, hPi], B0.out⟩
    · have x2z : ¬ (P.size : Int) ≤ 64 := by omega
      have HV : Hid (rightA ⟨p, s, ts, us⟩ = false) := Lib.hid (by rw [HV0.out]; simp [x2])
      clear hpz he
      go_enter Tryz.func34, Tryz.ntmps34
      repeat (first | go_skip | go_guarded | go_step | go_upon)
      go_ret
      exact ⟨by rw [HV.out]; first | rfl | simp [hPe, hPi], B0.out⟩
def checkA (a : Ar) : Nat := if rightA a = true then 0 else 90
set_option maxRecDepth 100000 in
set_option maxHeartbeats 1600000 in
theorem acheck_any (a : Ar) (ao : Option Addr) (ca : Nat) (so : Option Addr) (sc : Nat) (w : World) (he : NF.Env w) (h : ArAt w a ao ca so) :
    Calls Tryz.prog 17 #[arVal a ao ca so sc] w fun r w' => r = .returned (.int .i64 (checkA a : Nat)) ∧ Below w.heap.size w w' := by
  have CR : Hid (∀ W, Below w.heap.size w W → Calls Tryz.prog 34 #[arVal a ao ca so sc] W fun r w' => r = .returned (.bool (rightA a)) ∧ Below W.heap.size W w') := Lib.hid (fun W hW => right_any a ao ca so sc W (he.below hW) (h.below hW))
  unfold arVal txt at CR ⊢
  obtain ⟨P, hP⟩ : ∃ P : ByteArray, ⟨a.pair.toArray⟩ = P := ⟨_, rfl⟩
  obtain ⟨n, hn⟩ : ∃ n, a.tree.length = n := ⟨_, rfl⟩
  obtain ⟨m, hm⟩ : ∃ n, a.stamps.length = n := ⟨_, rfl⟩
  obtain ⟨s, hs⟩ : ∃ n, a.serial = n := ⟨_, rfl⟩
  obtain ⟨b, hb⟩ : ∃ b, rightA a = b := ⟨_, rfl⟩
  have HV : Hid (checkA a = if b = true then 0 else 90) := Lib.hid (by unfold checkA; rw [hb])
  rw [hP, hn, hm, hs, hb] at CR
  rw [hP, hn, hm, hs]
  have B0 : Hid (Below w.heap.size w (w.alloc (.cells #[.string P, .int .i64 s, .slice ao n ca, .slice so m sc] 35))) := Lib.hid ((Below.refl _ _).alloc (Nat.le_refl _) _)
  clear hP hn hm hs hb h he
  cases b
  all_goals
    go_enter Tryz.func17, Tryz.ntmps17
    repeat (first | (go_at_call 34; refine (CR.out _ B0.out).mono ?_; rintro r w2 ⟨rfl, hb⟩; simp only []; have B2 := Lib.hid (Below.trans B0.out (hb.mono B0.out.size)); clear hb) | go_skip | go_guarded | go_step | go_upon)
    go_ret
    exact ⟨by rw [HV.out]; rfl, B2.out⟩
def matchA (a b : Ar) : Bool := rightA a && rightA b && decide (a.pair = b.pair) && decide (a.serial = b.serial) && decide (a.tree = b.tree)
end AR
end Go.Proofs.YtfkaackhikbbkaaGreatDoor
