/- Layer 13: the walk of PlanNothing. -/
import Derived.Test.YtechekdiadpmoaaDoorQPlAw
set_option linter.all false
set_option maxRecDepth 100000
set_option maxHeartbeats 25600000
namespace Go.Proofs.YtechekdiadpmoaaDoor
open Go.RowKit Go.Lib Go.Maps Go.BigFrame
namespace PR
open OM TM PL PM PB

theorem settle_none (i : Pi) : settleL ⟨0, 0, false, fun q => decide (progL [] q ≠ [])⟩ [] i = 0 := by
  unfold settleL
  have : progL [] i.1 = [] := rfl
  simp [findP, this]
theorem froz7 {W : World} {B : Nat} {t : TypeId} {cs : Array Value} (h : W.heap[B]? = some (.cells cs t (0, 0))) (k : Nat) : W.frozen? ⟨B, k, none⟩ = false := by simp [World.frozen?, h]
set_option maxRecDepth 100000 in
set_option maxHeartbeats 6400000 in
theorem nothing_law (iv : Option Addr) (il ic : Nat) (jv : Option Addr) (jl jc : Nat) (mo : Option Addr) (ml mc : Nat) (pr fo : Int) (ba fa : Bool) (ao : Option Addr) (ca : Nat) (items : List Pi) (w : World) (he : NF.Env w) (hI : ArgP w ao ca items) :
    Calls Tryd.prog 6 #[.slice ao items.length ca, profV (.slice iv il ic) (.slice jv jl jc) mo ml mc pr fo ba fa] w fun r w' => r = .returned (.bool true) ∧ Below w.heap.size w w' := by
  have CW : Hid (∀ W, Below w.heap.size w W → Calls Tryd.prog 15 #[] W fun r w' => r = .returned (.bool true) ∧ Below W.heap.size W w') := Lib.hid (fun W hW => awake_any W (he.below hW))
  have CM : Hid (∀ W, Below w.heap.size w W → Calls Tryd.prog 16 #[.slice ao items.length ca, profV (.slice iv il ic) (.slice jv jl jc) none 0 0 0 0 false fa, .slice none 0 0] W (MakePost (makeL ⟨0, 0, false, fun q => decide (progL [] q ≠ [])⟩ items []) W)) := Lib.hid (fun W hW => make_any iv il ic jv jl jc none 0 [] 0 0 false fa ao ca items none 0 [] W (he.below hW) (ArgM.nil _) (hI.below hW) (ArgP.nil _))
  have HI := Lib.hid hI
  have hlen := hI.len
  rw [make_nil] at CM
  obtain ⟨s, hs⟩ : ∃ s : Say, (⟨0, 0, false, fun q => decide (progL [] q ≠ [])⟩ : Say) = s := ⟨_, rfl⟩
  have HS0 : Hid (∀ i, settleL s [] i = 0) := Lib.hid (fun i => by rw [← hs]; exact settle_none i)
  rw [hs] at CM
  obtain ⟨n, hn⟩ : ∃ n, items.length = n := ⟨_, rfl⟩
  have HN := Lib.hid hn
  rw [hn] at CM hlen ⊢
  unfold profV at CM ⊢
  obtain ⟨R, hR⟩ : ∃ R, badI [] items = R := ⟨_, rfl⟩
  rw [hR] at CM
  clear he hI hn hR hs
  go_enter Tryd.func6, Tryd.ntmps6
  repeat (first | go_skip | go_guarded | go_step | go_upon)
  have hAr := heap_alloc_new w (.cells #[.slice iv il ic, .slice jv jl jc, .slice mo ml mc, .int .i64 pr, .int .i64 fo, .bool ba, .bool fa] 39)
  have hA0 : Below w.heap.size w (w.alloc (.cells #[.slice iv il ic, .slice jv jl jc, .slice mo ml mc, .int .i64 pr, .int .i64 fo, .bool ba, .bool fa] 39)) := (Below.refl _ _).alloc (Nat.le_refl _) _
  generalize w.alloc (.cells #[.slice iv il ic, .slice jv jl jc, .slice mo ml mc, .int .i64 pr, .int .i64 fo, .bool ba, .bool fa] 39) = wA at hA0 hAr ⊢
  refine (CW.out _ hA0).mono ?_
  rintro r w1 ⟨rfl, hb1⟩
  simp only []
  have B1 := Lib.hid (hA0.trans (hb1.mono hA0.size))
  have hrow := row_below hAr hb1
  obtain ⟨x0, x1, x2, x3, x4, x5, x6⟩ := cells7 hrow
  have f2 := froz7 hrow 2
  have f3 := froz7 hrow 3
  have f4 := froz7 hrow 4
  have f5 := froz7 hrow 5
  clear hAr hA0 hb1
  repeat (first | go_skip | go_guarded | go_step | go_upon)
  have B2 : Hid (Below w.heap.size w ((((w1.setCell ⟨w.heap.size, 4, none⟩ (.int .i64 0)).setCell ⟨w.heap.size, 3, none⟩ (.int .i64 0)).setCell ⟨w.heap.size, 5, none⟩ (.bool false)).setCell ⟨w.heap.size, 2, none⟩ (.slice none 0 0))) := Lib.hid ((((B1.out.setCell (p := ⟨w.heap.size, 4, none⟩) (Nat.le_refl _) _).setCell (p := ⟨w.heap.size, 3, none⟩) (Nat.le_refl _) _).setCell (p := ⟨w.heap.size, 5, none⟩) (Nat.le_refl _) _).setCell (p := ⟨w.heap.size, 2, none⟩) (Nat.le_refl _) _)
  clear hrow x0 x1 x2 x3 x4 x5 x6 f2 f3 f4 f5
  generalize (((w1.setCell ⟨w.heap.size, 4, none⟩ (.int .i64 0)).setCell ⟨w.heap.size, 3, none⟩ (.int .i64 0)).setCell ⟨w.heap.size, 5, none⟩ (.bool false)).setCell ⟨w.heap.size, 2, none⟩ (.slice none 0 0) = wB at B2 ⊢
  cases R with
  | some k1 =>
    refine (CM.out _ B2.out).mono ?_
    rintro r w2 ⟨a2, c2, rfl, -, -, -, hb2⟩
    simp only []
    have B3 := Lib.hid (B2.out.trans (hb2.mono B2.out.size))
    clear hb2
    repeat (first | go_skip | go_guarded | go_step | go_upon)
    go_ret
    exact ⟨rfl, B3.out⟩
  | none =>
    refine (CM.out _ B2.out).mono ?_
    simp only []
    obtain ⟨L, hL⟩ : ∃ L, doneL s [] items = L := ⟨_, rfl⟩
    have HL := Lib.hid hL
    obtain ⟨q, hq⟩ : ∃ q, L.length = q := ⟨_, rfl⟩
    have HQ := Lib.hid hq
    rintro r w2 ⟨a2, c2, hr2, hl2, -, hc2, hb2⟩
    simp only [hL, hq] at hr2 hl2 hc2
    subst hr2
    simp only []
    have B3 := Lib.hid (B2.out.trans (hb2.mono B2.out.size))
    have HL2 := Lib.hid hl2
    have HC2 := Lib.hid hc2
    have hql : q ≤ 1048576 := by
      have := done_len s [] items
      rw [hL, hq, HN.out] at this
      omega
    clear hb2 hl2 hc2 hL hq
    repeat (first | go_skip | go_guarded | go_step | go_upon)
    go_loopw [8, 35] (fun s8 s35 wr => ∃ i : Nat, s35 = .int .i64 i ∧ i ≤ n ∧ s8 = .int .i64 ((doneL s [] (items.take i)).length : Nat) ∧ Below w2.heap.size w2 wr) (fun _ s35 _ => n - (Go.RowKit.intOf s35).toNat)
    case atStart => exact ⟨0, rfl, Nat.zero_le _, rfl, Below.refl _ _⟩
    case round =>
      obtain ⟨i, rfl, hi, rfl, hb⟩ := hrel
      have HB := Lib.hid hb
      clear hb
      by_cases hlt : i < n
      · have hiz : (i : Int) < n := by omega
        obtain ⟨g, o, rfl, hg, hc⟩ := (HI.out.below (B3.out.trans (HB.out.mono B3.out.size))).lay (by rw [HN.out]; omega)
        obtain ⟨⟨p, v⟩, hx⟩ : ∃ x, items[i]? = some x := ⟨items[i]'(by rw [HN.out]; exact hlt), List.getElem?_eq_getElem _⟩
        obtain ⟨a0, a1⟩ := hc i _ hx
        simp only at a0 a1
        unfold txt at a0
        obtain ⟨kk, hkk⟩ : ∃ kk, (doneL s [] (items.take i)).length = kk := ⟨_, rfl⟩
        by_cases h1 : v = 1
        · subst h1
          have HK : Hid ((doneL s [] (items.take (i + 1))).length = kk) := Lib.hid (by rw [done_same s [] items hx rfl]; exact hkk)
          have HBn : Hid (Below w2.heap.size w2 (wr.alloc (.cells #[.string ⟨p.toArray⟩, .int .i64 1] 34))) := Lib.hid (HB.out.alloc HB.out.size _)
          rw [hkk]
          clear hc hx hkk
          repeat (first | go_skip | go_guarded | go_step | go_upon)
          exact ⟨⟨i + 1, by go_num, by omega, by rw [HK.out], HBn.out⟩, by simp [Go.RowKit.intOf]; omega⟩
        · have z1 : (v == 1) = false := by simpa using h1
          have HK : Hid ((doneL s [] (items.take (i + 1))).length = kk + 1) := Lib.hid (by rw [done_more s [] items hx h1, hkk])
          have hat := done_at s [] items hx h1
          rw [HL.out, hkk, HS0.out] at hat
          have hkl := (List.getElem?_eq_some_iff.1 hat).1
          rw [HQ.out] at hkl
          obtain ⟨g2, o2, rfl, hg2, hcc⟩ := (HL2.out.below HB.out) (by rw [HQ.out]; omega)
          obtain ⟨b0, b1⟩ := hcc kk _ hat
          simp only at b0 b1
          unfold txt at b0
          have hbi : Below wr.heap.size wr (wr.alloc (.cells #[.string ⟨p.toArray⟩, .int .i64 v] 34)) := (Below.refl _ _).alloc (Nat.le_refl _) _
          have d0 := (hbi.cell (p := ⟨g2, o2 + kk * 2, none⟩) hg2).trans b0
          have d1 := (hbi.cell (p := ⟨g2, o2 + kk * 2 + 1, none⟩) hg2).trans b1
          obtain ⟨y0, y1⟩ := cells2 (heap_alloc_new wr (.cells #[.string ⟨p.toArray⟩, .int .i64 v] 34))
          have HBn : Hid (Below w2.heap.size w2 (wr.alloc (.cells #[.string ⟨p.toArray⟩, .int .i64 v] 34))) := Lib.hid (HB.out.alloc HB.out.size _)
          have he := fun W => eq_ch (p, 0) (p, 0) W
          unfold txt at he
          simp only [decide_true] at he
          have hkz : ¬ ((q : Int) ≤ kk) := by omega
          have hkz2 : (kk : Int) < q := by omega
          rw [hkk]
          clear hc hx hkk hcc hat h1 b0 b1
          have D0 := Lib.hid d0
          have D1 := Lib.hid d1
          have Y0 := Lib.hid y0
          clear d0 d1 y0 y1 hbi
          repeat (first | go_skip | go_guarded | go_step | go_upon)
          generalize wr.alloc (.cells #[.string ⟨p.toArray⟩, .int .i64 v] 34) = wi at D0 D1 Y0 HBn ⊢
          have d0 := D0.out
          have d1 := D1.out
          have y0 := Y0.out
          clear a0 a1
          go_quiet (fail)
          rename_i nq
          have HBq : Hid (Below w2.heap.size w2 (wi.drewN nq)) := Lib.hid ⟨HBn.out.os, HBn.out.tape, HBn.out.output, HBn.out.size, HBn.out.block⟩
          repeat (first | go_skip | go_guarded | go_step | go_upon)
          exact ⟨⟨i + 1, by go_num, by omega, by rw [HK.out]; go_num, HBq.out⟩, by simp [Go.RowKit.intOf]; omega⟩
      · obtain rfl : i = n := by omega
        have ht : items.take i = items := by rw [← HN.out]; exact List.take_length
        have hkk : (doneL s [] (items.take i)).length = q := by rw [ht, HL.out, HQ.out]
        rw [hkk]
        clear ht hkk
        repeat (first | go_skip | go_guarded | go_step | go_upon)
        go_ret
        exact ⟨by simp, B3.out.trans (HB.out.mono B3.out.size)⟩
end PR
end Go.Proofs.YtechekdiadpmoaaDoor
