/- Layer 13: the walk of PlanWays. -/
import Derived.Test.YtechekdiadpmoaaDoorQPlNo
set_option linter.all false
set_option maxRecDepth 100000
set_option maxHeartbeats 25600000
namespace Go.Proofs.YtechekdiadpmoaaDoor
open Go.RowKit Go.Lib Go.Maps Go.BigFrame
namespace PR
open OM TM PL PM PB

theorem settle_forced (s : Say) (i : Pi) (h : s.force = 1 ∨ s.force = 2) : settleL s [] i = s.force := by
  unfold settleL
  simp only [findP]
  rw [if_pos h]
theorem settle_free (s : Say) (i : Pi) (h : ¬ (s.force = 1 ∨ s.force = 2)) (h4 : i.2 ≠ 4) : settleL s [] i = if s.batch = true then dirI i.2 else 0 := by
  unfold settleL
  simp only [findP]
  rw [if_neg h, if_neg (fun e => h4 e.1), if_neg (fun e => h4 e.1)]
  by_cases hb : s.batch = true
  · rw [if_pos ⟨h4, hb⟩, if_pos hb]
  · rw [if_neg (fun e => hb e.2), if_neg hb]
theorem whats_ok : ∀ (items acc : List Pi), badI acc items = none → ∀ x ∈ items, isWhatB x.2 = true
  | [], _, _, x, hx => by cases hx
  | y :: r, acc, h, x, hx => by
    unfold badI at h
    split at h
    · rename_i hy
      rcases List.mem_cons.1 hx with rfl | hx
      · exact hy.1
      · exact whats_ok r _ h x hx
    · cases h
set_option maxRecDepth 100000 in
set_option maxHeartbeats 12800000 in
theorem ways_law (iv : Option Addr) (il ic : Nat) (jv : Option Addr) (jl jc : Nat) (mo : Option Addr) (mc : Nat) (M : List Pm) (pr fo : Int) (ba fa : Bool) (ao : Option Addr) (ca : Nat) (items : List Pi) (w : World) (he : NF.Env w) (hM : ArgM w mo mc M) (hI : ArgP w ao ca items) :
    Calls Tryd.prog 8 #[.slice ao items.length ca, profV (.slice iv il ic) (.slice jv jl jc) mo M.length mc pr fo ba fa] w fun r w' => r = .returned (.bool true) ∧ Below w.heap.size w w' := by
  have CW : Hid (∀ W, Below w.heap.size w W → Calls Tryd.prog 15 #[] W fun r w' => r = .returned (.bool true) ∧ Below W.heap.size W w') := Lib.hid (fun W hW => awake_any W (he.below hW))
  have CM : Hid (∀ W, Below w.heap.size w W → Calls Tryd.prog 16 #[.slice ao items.length ca, profV (.slice iv il ic) (.slice jv jl jc) mo M.length mc pr fo ba fa, .slice none 0 0] W (MakePost (makeL ⟨fo, pr, ba, fun q => decide (progL M q ≠ [])⟩ items []) W)) := Lib.hid (fun W hW => make_any iv il ic jv jl jc mo mc M pr fo ba fa ao ca items none 0 [] W (he.below hW) (hM.below hW) (hI.below hW) (ArgP.nil _))
  have HI := Lib.hid hI
  have hlen := hI.len
  rw [make_nil] at CM
  obtain ⟨s, hs⟩ : ∃ s : Say, (⟨fo, pr, ba, fun q => decide (progL M q ≠ [])⟩ : Say) = s := ⟨_, rfl⟩
  have HSf : Hid (s.force = fo) := Lib.hid (by rw [← hs])
  have HSb : Hid (s.batch = ba) := Lib.hid (by rw [← hs])
  rw [hs] at CM
  obtain ⟨n, hn⟩ : ∃ n, items.length = n := ⟨_, rfl⟩
  have HN := Lib.hid hn
  obtain ⟨nm, hnm⟩ : ∃ nm, M.length = nm := ⟨_, rfl⟩
  rw [hn, hnm] at CM
  rw [hn] at hlen
  rw [hn, hnm]
  unfold profV at CM ⊢
  obtain ⟨R, hR⟩ : ∃ R, badI [] items = R := ⟨_, rfl⟩
  rw [hR] at CM
  have HR := Lib.hid hR
  clear he hI hM hn hR hs hnm
  go_enter Tryd.func8, Tryd.ntmps8
  repeat (first | go_skip | go_guarded | go_step | go_upon)
  have hAr := heap_alloc_new w (.cells #[.slice iv il ic, .slice jv jl jc, .slice mo nm mc, .int .i64 pr, .int .i64 fo, .bool ba, .bool fa] 39)
  have hA0 : Below w.heap.size w (w.alloc (.cells #[.slice iv il ic, .slice jv jl jc, .slice mo nm mc, .int .i64 pr, .int .i64 fo, .bool ba, .bool fa] 39)) := (Below.refl _ _).alloc (Nat.le_refl _) _
  generalize w.alloc (.cells #[.slice iv il ic, .slice jv jl jc, .slice mo nm mc, .int .i64 pr, .int .i64 fo, .bool ba, .bool fa] 39) = wA at hA0 hAr ⊢
  refine (CW.out _ hA0).mono ?_
  rintro r w1 ⟨rfl, hb1⟩
  simp only []
  have B2 := Lib.hid (hA0.trans (hb1.mono hA0.size))
  have hrow := row_below hAr hb1
  have HRow := Lib.hid hrow
  obtain ⟨x0, x1, x2, x3, x4, x5, x6⟩ := cells7 hrow
  clear hAr hA0 hb1
  repeat (first | go_skip | go_guarded | go_step | go_upon)
  clear x0 x1 x2 x3 x4 x5 x6 hrow
  cases R with
  | some k1 =>
    refine (CM.out _ B2.out).mono ?_
    rintro r w2 ⟨a2, c2, rfl, -, -, -, hb2⟩
    simp only []
    have B3 := Lib.hid (B2.out.trans (hb2.mono B2.out.size))
    clear hb2
    repeat (first | go_skip | go_guarded | go_step | go_upon)
    go_ret
    exact ⟨rfl, B3.out⟩
  | none =>
    have HW := Lib.hid (whats_ok items [] HR.out)
    refine (CM.out _ B2.out).mono ?_
    simp only []
    obtain ⟨L, hL⟩ : ∃ L, doneL s [] items = L := ⟨_, rfl⟩
    have HL := Lib.hid hL
    obtain ⟨q, hq⟩ : ∃ q, L.length = q := ⟨_, rfl⟩
    have HQ := Lib.hid hq
    rintro r w2 ⟨a2, c2, hr2, hl2, -, hc2, hb2⟩
    simp only [hL, hq] at hr2 hl2 hc2
    subst hr2
    simp only []
    have B3 := Lib.hid (B2.out.trans (hb2.mono B2.out.size))
    have HL2 := Lib.hid hl2
    have HC2 := Lib.hid hc2
    have hrow2 := row_below HRow.out hb2
    have HRow2 := Lib.hid hrow2
    have x4 := (cells7 hrow2).2.2.2.2.1
    have hql : q ≤ 1048576 := by
      have := done_len s [] items
      rw [hL, hq, HN.out] at this
      omega
    clear hb2 hl2 hc2 hL hq hrow2
    by_cases hf1 : fo = 1
    · subst hf1
      repeat (first | go_skip | go_guarded | go_step | go_upon)
      go_loopw [9, 12, 37] (fun s9 s12 s37 wr => ∃ i : Nat, s37 = .int .i64 i ∧ i ≤ n ∧ s9 = .int .i64 ((doneL s [] (items.take i)).length : Nat) ∧ Below w2.heap.size w2 wr) (fun _ _ s37 _ => n - (Go.RowKit.intOf s37).toNat)
      case atStart => exact ⟨0, rfl, Nat.zero_le _, rfl, Below.refl _ _⟩
      case round =>
        obtain ⟨i, rfl, hi, rfl, hb⟩ := hrel
        have HB := Lib.hid hb
        clear hb
        by_cases hlt : i < n
        · have hiz : (i : Int) < n := by omega
          obtain ⟨g, o, rfl, hg, hc⟩ := (HI.out.below (B3.out.trans (HB.out.mono B3.out.size))).lay (by rw [HN.out]; omega)
          obtain ⟨⟨p, v⟩, hx⟩ : ∃ x, items[i]? = some x := ⟨items[i]'(by rw [HN.out]; exact hlt), List.getElem?_eq_getElem _⟩
          obtain ⟨a0, a1⟩ := hc i _ hx
          simp only at a0 a1
          unfold txt at a0
          have hvw := isWhat_range (HW.out _ (List.mem_of_getElem? hx))
          simp only at hvw
          obtain ⟨kk, hkk⟩ : ∃ kk, (doneL s [] (items.take i)).length = kk := ⟨_, rfl⟩
          by_cases h1 : v = 1
          · subst h1
            have HK : Hid ((doneL s [] (items.take (i + 1))).length = kk) := Lib.hid (by rw [done_same s [] items hx rfl]; exact hkk)
            have HBn : Hid (Below w2.heap.size w2 (wr.alloc (.cells #[.string ⟨p.toArray⟩, .int .i64 1] 34))) := Lib.hid (HB.out.alloc HB.out.size _)
            rw [hkk]
            clear hc hx hkk
            repeat (first | go_skip | go_guarded | go_step | go_upon)
            exact ⟨⟨i + 1, by go_num, by omega, by rw [HK.out], HBn.out⟩, by simp [Go.RowKit.intOf]; omega⟩
          · have z1 : (v == 1) = false := by simpa using h1
            have HK : Hid ((doneL s [] (items.take (i + 1))).length = kk + 1) := Lib.hid (by rw [done_more s [] items hx h1, hkk])
            have hat := done_at s [] items hx h1
            obtain ⟨d, hd⟩ : ∃ d, settleL s [] (p, v) = d := ⟨_, rfl⟩
            rw [HL.out, hkk, hd] at hat
            have hkl := (List.getElem?_eq_some_iff.1 hat).1
            rw [HQ.out] at hkl
            obtain ⟨g2, o2, rfl, hg2, hcc⟩ := (HL2.out.below HB.out) (by rw [HQ.out]; omega)
            obtain ⟨b0, b1⟩ := hcc kk _ hat
            simp only at b0 b1
            unfold txt at b0
            have hbi : Below wr.heap.size wr (wr.alloc (.cells #[.string ⟨p.toArray⟩, .int .i64 v] 34)) := (Below.refl _ _).alloc (Nat.le_refl _) _
            have D0 := Lib.hid ((hbi.cell (p := ⟨g2, o2 + kk * 2, none⟩) hg2).trans b0)
            have D1 := Lib.hid ((hbi.cell (p := ⟨g2, o2 + kk * 2 + 1, none⟩) hg2).trans b1)
            have Y0 := Lib.hid (cells2 (heap_alloc_new wr (.cells #[.string ⟨p.toArray⟩, .int .i64 v] 34)))
            have X4 := Lib.hid (cells7 (row_below (row_below HRow2.out HB.out) hbi))
            have HBn : Hid (Below w2.heap.size w2 (wr.alloc (.cells #[.string ⟨p.toArray⟩, .int .i64 v] 34))) := Lib.hid (HB.out.alloc HB.out.size _)
            have heq : ((⟨p.toArray⟩ : ByteArray).toList == (⟨p.toArray⟩ : ByteArray).toList) = true := by simp
            have hkz : ¬ ((q : Int) ≤ kk) := by omega
            have hkz2 : (kk : Int) < q := by omega
            rw [hkk]
            clear hc hx hkk hcc hat b0 b1 hbi
            have hd2 : d = 1 := by rw [← hd, settle_forced s _ (by rw [HSf.out]; simp), HSf.out]
            subst hd2
            clear hd h1 hvw
            repeat (first | go_skip | go_guarded | go_step | go_upon)
            generalize wr.alloc (.cells #[.string ⟨p.toArray⟩, .int .i64 v] 34) = wi at D0 D1 Y0 X4 HBn ⊢
            have d0 := D0.out
            have d1 := D1.out
            obtain ⟨y0, y1⟩ := Y0.out
            have x4 := X4.out.2.2.2.2.1
            have x5 := X4.out.2.2.2.2.2.1
            clear a0 a1
            go_quiet (fail)
            rename_i nq
            have HBq : Hid (Below w2.heap.size w2 (wi.drewN nq)) := Lib.hid ⟨HBn.out.os, HBn.out.tape, HBn.out.output, HBn.out.size, HBn.out.block⟩
            have e1 : (wi.drewN nq).cell? ⟨g2, o2 + kk * 2 + 1, none⟩ = some (.int .i64 1) := D1.out
            have e2 : (wi.drewN nq).cell? ⟨wr.heap.size, 1, none⟩ = some (.int .i64 v) := Y0.out.2
            have e3 : (wi.drewN nq).cell? ⟨w.heap.size, 4, none⟩ = some (.int .i64 1) := X4.out.2.2.2.2.1
            have e4 : (wi.drewN nq).cell? ⟨w.heap.size, 5, none⟩ = some (.bool ba) := X4.out.2.2.2.2.2.1
            clear d0 d1 y0 y1 x4 x5 D0 D1 Y0 X4
            generalize wi.drewN nq = w7 at HBq e1 e2 e3 e4 ⊢
            repeat (first | go_skip | go_guarded | go_step | go_upon)
            exact ⟨⟨i + 1, by go_num, by omega, by rw [HK.out]; go_num, HBq.out⟩, by simp [Go.RowKit.intOf]; omega⟩
        · obtain rfl : i = n := by omega
          have ht : items.take i = items := by rw [← HN.out]; exact List.take_length
          have hkk : (doneL s [] (items.take i)).length = q := by rw [ht, HL.out, HQ.out]
          rw [hkk]
          clear ht hkk
          repeat (first | go_skip | go_guarded | go_step | go_upon)
          go_ret
          exact ⟨by simp, B3.out.trans (HB.out.mono B3.out.size)⟩
    · by_cases hf2 : fo = 2
      · subst hf2
        repeat (first | go_skip | go_guarded | go_step | go_upon)
        go_loopw [9, 12, 37] (fun s9 s12 s37 wr => ∃ i : Nat, s37 = .int .i64 i ∧ i ≤ n ∧ s9 = .int .i64 ((doneL s [] (items.take i)).length : Nat) ∧ Below w2.heap.size w2 wr) (fun _ _ s37 _ => n - (Go.RowKit.intOf s37).toNat)
        case atStart => exact ⟨0, rfl, Nat.zero_le _, rfl, Below.refl _ _⟩
        case round =>
          obtain ⟨i, rfl, hi, rfl, hb⟩ := hrel
          have HB := Lib.hid hb
          clear hb
          by_cases hlt : i < n
          · have hiz : (i : Int) < n := by omega
            obtain ⟨g, o, rfl, hg, hc⟩ := (HI.out.below (B3.out.trans (HB.out.mono B3.out.size))).lay (by rw [HN.out]; omega)
            obtain ⟨⟨p, v⟩, hx⟩ : ∃ x, items[i]? = some x := ⟨items[i]'(by rw [HN.out]; exact hlt), List.getElem?_eq_getElem _⟩
            obtain ⟨a0, a1⟩ := hc i _ hx
            simp only at a0 a1
            unfold txt at a0
            have hvw := isWhat_range (HW.out _ (List.mem_of_getElem? hx))
            simp only at hvw
            obtain ⟨kk, hkk⟩ : ∃ kk, (doneL s [] (items.take i)).length = kk := ⟨_, rfl⟩
            by_cases h1 : v = 1
            · subst h1
              have HK : Hid ((doneL s [] (items.take (i + 1))).length = kk) := Lib.hid (by rw [done_same s [] items hx rfl]; exact hkk)
              have HBn : Hid (Below w2.heap.size w2 (wr.alloc (.cells #[.string ⟨p.toArray⟩, .int .i64 1] 34))) := Lib.hid (HB.out.alloc HB.out.size _)
              rw [hkk]
              clear hc hx hkk
              repeat (first | go_skip | go_guarded | go_step | go_upon)
              exact ⟨⟨i + 1, by go_num, by omega, by rw [HK.out], HBn.out⟩, by simp [Go.RowKit.intOf]; omega⟩
            · have z1 : (v == 1) = false := by simpa using h1
              have HK : Hid ((doneL s [] (items.take (i + 1))).length = kk + 1) := Lib.hid (by rw [done_more s [] items hx h1, hkk])
              have hat := done_at s [] items hx h1
              obtain ⟨d, hd⟩ : ∃ d, settleL s [] (p, v) = d := ⟨_, rfl⟩
              rw [HL.out, hkk, hd] at hat
              have hkl := (List.getElem?_eq_some_iff.1 hat).1
              rw [HQ.out] at hkl
              obtain ⟨g2, o2, rfl, hg2, hcc⟩ := (HL2.out.below HB.out) (by rw [HQ.out]; omega)
              obtain ⟨b0, b1⟩ := hcc kk _ hat
              simp only at b0 b1
              unfold txt at b0
              have hbi : Below wr.heap.size wr (wr.alloc (.cells #[.string ⟨p.toArray⟩, .int .i64 v] 34)) := (Below.refl _ _).alloc (Nat.le_refl _) _
              have D0 := Lib.hid ((hbi.cell (p := ⟨g2, o2 + kk * 2, none⟩) hg2).trans b0)
              have D1 := Lib.hid ((hbi.cell (p := ⟨g2, o2 + kk * 2 + 1, none⟩) hg2).trans b1)
              have Y0 := Lib.hid (cells2 (heap_alloc_new wr (.cells #[.string ⟨p.toArray⟩, .int .i64 v] 34)))
              have X4 := Lib.hid (cells7 (row_below (row_below HRow2.out HB.out) hbi))
              have HBn : Hid (Below w2.heap.size w2 (wr.alloc (.cells #[.string ⟨p.toArray⟩, .int .i64 v] 34))) := Lib.hid (HB.out.alloc HB.out.size _)
              have heq : ((⟨p.toArray⟩ : ByteArray).toList == (⟨p.toArray⟩ : ByteArray).toList) = true := by simp
              have hkz : ¬ ((q : Int) ≤ kk) := by omega
              have hkz2 : (kk : Int) < q := by omega
              rw [hkk]
              clear hc hx hkk hcc hat b0 b1 hbi
              have hd2 : d = 2 := by rw [← hd, settle_forced s _ (by rw [HSf.out]; simp), HSf.out]
              subst hd2
              clear hd h1 hvw
              repeat (first | go_skip | go_guarded | go_step | go_upon)
              generalize wr.alloc (.cells #[.string ⟨p.toArray⟩, .int .i64 v] 34) = wi at D0 D1 Y0 X4 HBn ⊢
              have d0 := D0.out
              have d1 := D1.out
              obtain ⟨y0, y1⟩ := Y0.out
              have x4 := X4.out.2.2.2.2.1
              have x5 := X4.out.2.2.2.2.2.1
              clear a0 a1
              go_quiet (fail)
              rename_i nq
              have HBq : Hid (Below w2.heap.size w2 (wi.drewN nq)) := Lib.hid ⟨HBn.out.os, HBn.out.tape, HBn.out.output, HBn.out.size, HBn.out.block⟩
              have e1 : (wi.drewN nq).cell? ⟨g2, o2 + kk * 2 + 1, none⟩ = some (.int .i64 2) := D1.out
              have e2 : (wi.drewN nq).cell? ⟨wr.heap.size, 1, none⟩ = some (.int .i64 v) := Y0.out.2
              have e3 : (wi.drewN nq).cell? ⟨w.heap.size, 4, none⟩ = some (.int .i64 2) := X4.out.2.2.2.2.1
              have e4 : (wi.drewN nq).cell? ⟨w.heap.size, 5, none⟩ = some (.bool ba) := X4.out.2.2.2.2.2.1
              clear d0 d1 y0 y1 x4 x5 D0 D1 Y0 X4
              generalize wi.drewN nq = w7 at HBq e1 e2 e3 e4 ⊢
              repeat (first | go_skip | go_guarded | go_step | go_upon)
              exact ⟨⟨i + 1, by go_num, by omega, by rw [HK.out]; go_num, HBq.out⟩, by simp [Go.RowKit.intOf]; omega⟩
          · obtain rfl : i = n := by omega
            have ht : items.take i = items := by rw [← HN.out]; exact List.take_length
            have hkk : (doneL s [] (items.take i)).length = q := by rw [ht, HL.out, HQ.out]
            rw [hkk]
            clear ht hkk
            repeat (first | go_skip | go_guarded | go_step | go_upon)
            go_ret
            exact ⟨by simp, B3.out.trans (HB.out.mono B3.out.size)⟩
      · have zf1 : (fo == 1) = false := by simpa using hf1
        have zf2 : (fo == 2) = false := by simpa using hf2
        repeat (first | go_skip | go_guarded | go_step | go_upon)
        go_loopw [9, 12, 37] (fun s9 s12 s37 wr => ∃ i : Nat, s37 = .int .i64 i ∧ i ≤ n ∧ s9 = .int .i64 ((doneL s [] (items.take i)).length : Nat) ∧ Below w2.heap.size w2 wr) (fun _ _ s37 _ => n - (Go.RowKit.intOf s37).toNat)
        case atStart => exact ⟨0, rfl, Nat.zero_le _, rfl, Below.refl _ _⟩
        case round =>
          obtain ⟨i, rfl, hi, rfl, hb⟩ := hrel
          have HB := Lib.hid hb
          clear hb
          by_cases hlt : i < n
          · have hiz : (i : Int) < n := by omega
            obtain ⟨g, o, rfl, hg, hc⟩ := (HI.out.below (B3.out.trans (HB.out.mono B3.out.size))).lay (by rw [HN.out]; omega)
            obtain ⟨⟨p, v⟩, hx⟩ : ∃ x, items[i]? = some x := ⟨items[i]'(by rw [HN.out]; exact hlt), List.getElem?_eq_getElem _⟩
            obtain ⟨a0, a1⟩ := hc i _ hx
            simp only at a0 a1
            unfold txt at a0
            have hvw := isWhat_range (HW.out _ (List.mem_of_getElem? hx))
            simp only at hvw
            obtain ⟨kk, hkk⟩ : ∃ kk, (doneL s [] (items.take i)).length = kk := ⟨_, rfl⟩
            by_cases h1 : v = 1
            · subst h1
              have HK : Hid ((doneL s [] (items.take (i + 1))).length = kk) := Lib.hid (by rw [done_same s [] items hx rfl]; exact hkk)
              have HBn : Hid (Below w2.heap.size w2 (wr.alloc (.cells #[.string ⟨p.toArray⟩, .int .i64 1] 34))) := Lib.hid (HB.out.alloc HB.out.size _)
              rw [hkk]
              clear hc hx hkk
              repeat (first | go_skip | go_guarded | go_step | go_upon)
              exact ⟨⟨i + 1, by go_num, by omega, by rw [HK.out], HBn.out⟩, by simp [Go.RowKit.intOf]; omega⟩
            · have z1 : (v == 1) = false := by simpa using h1
              have HK : Hid ((doneL s [] (items.take (i + 1))).length = kk + 1) := Lib.hid (by rw [done_more s [] items hx h1, hkk])
              have hat := done_at s [] items hx h1
              obtain ⟨d, hd⟩ : ∃ d, settleL s [] (p, v) = d := ⟨_, rfl⟩
              rw [HL.out, hkk, hd] at hat
              have hkl := (List.getElem?_eq_some_iff.1 hat).1
              rw [HQ.out] at hkl
              obtain ⟨g2, o2, rfl, hg2, hcc⟩ := (HL2.out.below HB.out) (by rw [HQ.out]; omega)
              obtain ⟨b0, b1⟩ := hcc kk _ hat
              simp only at b0 b1
              unfold txt at b0
              have hbi : Below wr.heap.size wr (wr.alloc (.cells #[.string ⟨p.toArray⟩, .int .i64 v] 34)) := (Below.refl _ _).alloc (Nat.le_refl _) _
              have D0 := Lib.hid ((hbi.cell (p := ⟨g2, o2 + kk * 2, none⟩) hg2).trans b0)
              have D1 := Lib.hid ((hbi.cell (p := ⟨g2, o2 + kk * 2 + 1, none⟩) hg2).trans b1)
              have Y0 := Lib.hid (cells2 (heap_alloc_new wr (.cells #[.string ⟨p.toArray⟩, .int .i64 v] 34)))
              have X4 := Lib.hid (cells7 (row_below (row_below HRow2.out HB.out) hbi))
              have HBn : Hid (Below w2.heap.size w2 (wr.alloc (.cells #[.string ⟨p.toArray⟩, .int .i64 v] 34))) := Lib.hid (HB.out.alloc HB.out.size _)
              have heq : ((⟨p.toArray⟩ : ByteArray).toList == (⟨p.toArray⟩ : ByteArray).toList) = true := by simp
              have hkz : ¬ ((q : Int) ≤ kk) := by omega
              have hkz2 : (kk : Int) < q := by omega
              rw [hkk]
              clear hc hx hkk hcc hat b0 b1 hbi
              have hfree : ¬ (s.force = 1 ∨ s.force = 2) := by rw [HSf.out]; omega
              have hv4 : v = 2 ∨ v = 3 ∨ v = 4 := by omega
              rcases hv4 with rfl | rfl | rfl
              · have hd2 := settle_free s (p, 2) hfree (by simp)
                rw [hd, HSb.out] at hd2
                clear hd h1 hvw hfree
                cases ba with
                | true =>
                  have hd3 : d = 1 := hd2
                  subst hd3
                  clear hd2
                  repeat (first | go_skip | go_guarded | go_step | go_upon)
                  generalize wr.alloc (.cells #[.string ⟨p.toArray⟩, .int .i64 2] 34) = wi at D0 D1 Y0 X4 HBn ⊢
                  have d0 := D0.out
                  have d1 := D1.out
                  obtain ⟨y0, y1⟩ := Y0.out
                  have x4 := X4.out.2.2.2.2.1
                  have x5 := X4.out.2.2.2.2.2.1
                  clear a0 a1
                  go_quiet (fail)
                  rename_i nq
                  have HBq : Hid (Below w2.heap.size w2 (wi.drewN nq)) := Lib.hid ⟨HBn.out.os, HBn.out.tape, HBn.out.output, HBn.out.size, HBn.out.block⟩
                  have e1 : (wi.drewN nq).cell? ⟨g2, o2 + kk * 2 + 1, none⟩ = some (.int .i64 1) := D1.out
                  have e2 : (wi.drewN nq).cell? ⟨wr.heap.size, 1, none⟩ = some (.int .i64 2) := Y0.out.2
                  have e3 : (wi.drewN nq).cell? ⟨w.heap.size, 4, none⟩ = some (.int .i64 fo) := X4.out.2.2.2.2.1
                  have e4 : (wi.drewN nq).cell? ⟨w.heap.size, 5, none⟩ = some (.bool true) := X4.out.2.2.2.2.2.1
                  clear d0 d1 y0 y1 x4 x5 D0 D1 Y0 X4
                  generalize wi.drewN nq = w7 at HBq e1 e2 e3 e4 ⊢
                  repeat (first | go_skip | go_guarded | go_step | go_upon)
                  exact ⟨⟨i + 1, by go_num, by omega, by rw [HK.out]; go_num, HBq.out⟩, by simp [Go.RowKit.intOf]; omega⟩
                | false =>
                  have hd3 : d = 0 := hd2
                  subst hd3
                  clear hd2
                  repeat (first | go_skip | go_guarded | go_step | go_upon)
                  generalize wr.alloc (.cells #[.string ⟨p.toArray⟩, .int .i64 2] 34) = wi at D0 D1 Y0 X4 HBn ⊢
                  have d0 := D0.out
                  have d1 := D1.out
                  obtain ⟨y0, y1⟩ := Y0.out
                  have x4 := X4.out.2.2.2.2.1
                  have x5 := X4.out.2.2.2.2.2.1
                  clear a0 a1
                  go_quiet (fail)
                  rename_i nq
                  have HBq : Hid (Below w2.heap.size w2 (wi.drewN nq)) := Lib.hid ⟨HBn.out.os, HBn.out.tape, HBn.out.output, HBn.out.size, HBn.out.block⟩
                  have e1 : (wi.drewN nq).cell? ⟨g2, o2 + kk * 2 + 1, none⟩ = some (.int .i64 0) := D1.out
                  have e2 : (wi.drewN nq).cell? ⟨wr.heap.size, 1, none⟩ = some (.int .i64 2) := Y0.out.2
                  have e3 : (wi.drewN nq).cell? ⟨w.heap.size, 4, none⟩ = some (.int .i64 fo) := X4.out.2.2.2.2.1
                  have e4 : (wi.drewN nq).cell? ⟨w.heap.size, 5, none⟩ = some (.bool false) := X4.out.2.2.2.2.2.1
                  clear d0 d1 y0 y1 x4 x5 D0 D1 Y0 X4
                  generalize wi.drewN nq = w7 at HBq e1 e2 e3 e4 ⊢
                  repeat (first | go_skip | go_guarded | go_step | go_upon)
                  exact ⟨⟨i + 1, by go_num, by omega, by rw [HK.out]; go_num, HBq.out⟩, by simp [Go.RowKit.intOf]; omega⟩
              · have hd2 := settle_free s (p, 3) hfree (by simp)
                rw [hd, HSb.out] at hd2
                clear hd h1 hvw hfree
                cases ba with
                | true =>
                  have hd3 : d = 2 := hd2
                  subst hd3
                  clear hd2
                  repeat (first | go_skip | go_guarded | go_step | go_upon)
                  generalize wr.alloc (.cells #[.string ⟨p.toArray⟩, .int .i64 3] 34) = wi at D0 D1 Y0 X4 HBn ⊢
                  have d0 := D0.out
                  have d1 := D1.out
                  obtain ⟨y0, y1⟩ := Y0.out
                  have x4 := X4.out.2.2.2.2.1
                  have x5 := X4.out.2.2.2.2.2.1
                  clear a0 a1
                  go_quiet (fail)
                  rename_i nq
                  have HBq : Hid (Below w2.heap.size w2 (wi.drewN nq)) := Lib.hid ⟨HBn.out.os, HBn.out.tape, HBn.out.output, HBn.out.size, HBn.out.block⟩
                  have e1 : (wi.drewN nq).cell? ⟨g2, o2 + kk * 2 + 1, none⟩ = some (.int .i64 2) := D1.out
                  have e2 : (wi.drewN nq).cell? ⟨wr.heap.size, 1, none⟩ = some (.int .i64 3) := Y0.out.2
                  have e3 : (wi.drewN nq).cell? ⟨w.heap.size, 4, none⟩ = some (.int .i64 fo) := X4.out.2.2.2.2.1
                  have e4 : (wi.drewN nq).cell? ⟨w.heap.size, 5, none⟩ = some (.bool true) := X4.out.2.2.2.2.2.1
                  clear d0 d1 y0 y1 x4 x5 D0 D1 Y0 X4
                  generalize wi.drewN nq = w7 at HBq e1 e2 e3 e4 ⊢
                  repeat (first | go_skip | go_guarded | go_step | go_upon)
                  exact ⟨⟨i + 1, by go_num, by omega, by rw [HK.out]; go_num, HBq.out⟩, by simp [Go.RowKit.intOf]; omega⟩
                | false =>
                  have hd3 : d = 0 := hd2
                  subst hd3
                  clear hd2
                  repeat (first | go_skip | go_guarded | go_step | go_upon)
                  generalize wr.alloc (.cells #[.string ⟨p.toArray⟩, .int .i64 3] 34) = wi at D0 D1 Y0 X4 HBn ⊢
                  have d0 := D0.out
                  have d1 := D1.out
                  obtain ⟨y0, y1⟩ := Y0.out
                  have x4 := X4.out.2.2.2.2.1
                  have x5 := X4.out.2.2.2.2.2.1
                  clear a0 a1
                  go_quiet (fail)
                  rename_i nq
                  have HBq : Hid (Below w2.heap.size w2 (wi.drewN nq)) := Lib.hid ⟨HBn.out.os, HBn.out.tape, HBn.out.output, HBn.out.size, HBn.out.block⟩
                  have e1 : (wi.drewN nq).cell? ⟨g2, o2 + kk * 2 + 1, none⟩ = some (.int .i64 0) := D1.out
                  have e2 : (wi.drewN nq).cell? ⟨wr.heap.size, 1, none⟩ = some (.int .i64 3) := Y0.out.2
                  have e3 : (wi.drewN nq).cell? ⟨w.heap.size, 4, none⟩ = some (.int .i64 fo) := X4.out.2.2.2.2.1
                  have e4 : (wi.drewN nq).cell? ⟨w.heap.size, 5, none⟩ = some (.bool false) := X4.out.2.2.2.2.2.1
                  clear d0 d1 y0 y1 x4 x5 D0 D1 Y0 X4
                  generalize wi.drewN nq = w7 at HBq e1 e2 e3 e4 ⊢
                  repeat (first | go_skip | go_guarded | go_step | go_upon)
                  exact ⟨⟨i + 1, by go_num, by omega, by rw [HK.out]; go_num, HBq.out⟩, by simp [Go.RowKit.intOf]; omega⟩
              · clear hd h1 hvw hfree
                repeat (first | go_skip | go_guarded | go_step | go_upon)
                generalize wr.alloc (.cells #[.string ⟨p.toArray⟩, .int .i64 4] 34) = wi at D0 D1 Y0 X4 HBn ⊢
                have d0 := D0.out
                have d1 := D1.out
                obtain ⟨y0, y1⟩ := Y0.out
                have x4 := X4.out.2.2.2.2.1
                have x5 := X4.out.2.2.2.2.2.1
                clear a0 a1
                go_quiet (fail)
                rename_i nq
                have HBq : Hid (Below w2.heap.size w2 (wi.drewN nq)) := Lib.hid ⟨HBn.out.os, HBn.out.tape, HBn.out.output, HBn.out.size, HBn.out.block⟩
                have e1 : (wi.drewN nq).cell? ⟨g2, o2 + kk * 2 + 1, none⟩ = some (.int .i64 d) := D1.out
                have e2 : (wi.drewN nq).cell? ⟨wr.heap.size, 1, none⟩ = some (.int .i64 4) := Y0.out.2
                have e3 : (wi.drewN nq).cell? ⟨w.heap.size, 4, none⟩ = some (.int .i64 fo) := X4.out.2.2.2.2.1
                have e4 : (wi.drewN nq).cell? ⟨w.heap.size, 5, none⟩ = some (.bool ba) := X4.out.2.2.2.2.2.1
                clear d0 d1 y0 y1 x4 x5 D0 D1 Y0 X4
                generalize wi.drewN nq = w7 at HBq e1 e2 e3 e4 ⊢
                repeat (first | go_skip | go_guarded | go_step | go_upon)
                exact ⟨⟨i + 1, by go_num, by omega, by rw [HK.out]; go_num, HBq.out⟩, by simp [Go.RowKit.intOf]; omega⟩
          · obtain rfl : i = n := by omega
            have ht : items.take i = items := by rw [← HN.out]; exact List.take_length
            have hkk : (doneL s [] (items.take i)).length = q := by rw [ht, HL.out, HQ.out]
            rw [hkk]
            clear ht hkk
            repeat (first | go_skip | go_guarded | go_step | go_upon)
            go_ret
            exact ⟨by simp, B3.out.trans (HB.out.mono B3.out.size)⟩
end PR
end Go.Proofs.YtechekdiadpmoaaDoor
