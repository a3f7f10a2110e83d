/- Layer 2: the contract of takeRune. -/
import Derived.Test.YtechekdiadpmoaaDoorQGlobFit
set_option linter.all false
set_option maxRecDepth 100000
set_option maxHeartbeats 25600000
namespace Go.Proofs.YtechekdiadpmoaaDoor
open Go.RowKit Go.Lib
namespace GF
open GP GM

theorem take_next {B g n c : Nat} {w wr : World} {els : List El} {R : List Bool} {r j : Nat} {X : Bool} (hr : Rowed B g n c w (takeN els R r (j + 1)) wr) (hj : j < R.length) (hX : takeAt els R r j = X) :
    Rowed B g n c w (takeN els R r j) (wr.setCell ⟨g, j, none⟩ (.bool X)) := by
  rw [← takeN_step els R r j hj, hX]
  exact hr.set _ _
theorem at_zero {els : List El} {R : List Bool} {r : Nat} {s : Bool} (h : (isStar els[0]? && bo R 0) = s) : takeAt els R r 0 = s := by
  unfold takeAt
  rw [h]
  simp
theorem at_succ {els : List El} {R : List Bool} {r q : Nat} {s t : Bool} (h : (isStar els[q + 1]? && bo R (q + 1)) = s) (h2 : (bo R q && comesL els[q]? r) = t) : takeAt els R r (q + 1) = (s || t) := by
  unfold takeAt
  simp only [h, h2]
theorem stay_end {els : List El} {R : List Bool} {j : Nat} (h : j = els.length) : (isStar els[j]? && bo R j) = false := by
  rw [h, List.getElem?_eq_none (Nat.le_refl _)]
  rfl
theorem stay_at {els : List El} {R : List Bool} {j : Nat} {e : El} {b : Bool} (h : els[j]? = some e) (hb : bo R j = b) : (isStar els[j]? && bo R j) = (isStar (some e) && b) := by
  rw [h, hb]
set_option maxHeartbeats 3200000 in
theorem takeRune_any (ve : Value) (els : List El) (B g c : Nat) (R : List Bool) (r : Nat) (w : World) (he : LEls w ve els) (hl : R.length = els.length + 1) (hm : els.length + 1 ≤ maxLen)
    (ho : w.ownsRow B 4 1 (.slice (some ⟨g, 0, none⟩) (els.length + 1) c) (els.length + 1) (boCells R)) :
    Calls Tryd.prog 127 #[ve, .slice (some ⟨g, 0, none⟩) (els.length + 1) c, .int .i32 r] w (StepPost els R r B g c w) := by
  obtain ⟨hml, ao, ce, rfl⟩ := he.val
  have He := Lib.hid he
  have Hl := Lib.hid hl
  have hB := (ho.lt g rfl).1
  have hgs := (ho.lt g rfl).2
  have H0 : Hid (Rowed B g (els.length + 1) c w (takeN els R r (els.length + 1)) w) := Lib.hid (by
    rw [← hl, takeN_last, hl]
    exact ⟨hl, ho, Below.refl _ _, OthersKept.refl _ _ _⟩)
  clear he hl ho
  unfold maxLen at hm hml
  go_enter Tryd.func127, Tryd.ntmps127
  go_wp2_with fail
  go_loopw [6] (fun i wr => ∃ k : Nat, k ≤ els.length + 1 ∧ i = .int .i64 ((k : Int) - 1) ∧ Rowed B g (els.length + 1) c w (takeN els R r k) wr) (fun i _ => ((Go.RowKit.intOf i) + 1).toNat)
  case atStart => exact ⟨els.length + 1, Nat.le_refl _, by go_num, H0.out⟩
  case round =>
    obtain ⟨k, hk, rfl, hr⟩ := hrel
    have Hr := Lib.hid hr
    have hsz : w.heap.size ≤ wr.heap.size := hr.below.size
    clear hr
    by_cases h0 : k = 0
    · subst h0
      go_wp2_with fail
      refine GM.end0 rfl rfl ?_
      exact ⟨rfl, Hr.out⟩
    · obtain ⟨j, rfl⟩ : ∃ j, k = j + 1 := ⟨k - 1, by omega⟩
      have ej : ((j + 1 : Nat) : Int) - 1 = j := by omega
      rw [ej]
      clear ej h0
      have hjR : Hid (j < R.length) := Lib.hid (by have := Hl.out; omega)
      have hg2 : g < wr.heap.size := by omega
      have hfr : wr.frozen? ⟨g, j, none⟩ = false := Hr.out.own.frozenAt _
      have Hbo : ∀ i, i < j + 1 → wr.cell? ⟨g, i, none⟩ = some (.bool (bo R i)) := fun i hi => by
        rw [Hr.out.own.cellAt i (by omega), bo_cell (by rw [takeN_length _ _ _ _ (by have := Hl.out; omega)]; have := Hl.out; omega), takeN_low _ _ _ _ _ hi (by have := Hl.out; omega)]
      have HB := Lib.hid Hbo
      have hcj : wr.cell? ⟨g, j, none⟩ = some (.bool (bo R j)) := Hbo j (by omega)
      have hj0 : (0 : Int) ≤ (j : Int) := by omega
      have HE := Lib.hid (He.out.kept (T := 4) (by decide) (by decide) Hr.out.others)
      clear Hbo
      by_cases hjl : j < els.length
      · obtain ⟨e, hej⟩ : ∃ e, els[j]? = some e := ⟨els[j], List.getElem?_eq_getElem hjl⟩
        obtain ⟨ge, m, nn, a, jj, cc, rfl, hge, c1, c2, c3, hle⟩ := HE.out.at hej
        have hz : (j : Int) < els.length := by omega
        have hst : m = isStar (some e) := star_eq hle
        obtain ⟨b, hbb⟩ : ∃ b, bo R j = b := ⟨_, rfl⟩
        have HS' := Lib.hid (stay_at hej hbb)
        rw [hbb] at hcj
        rw [← hst] at HS'
        clear hst hbb hle hej
        cases m
        · have HS : Hid ((isStar els[j]? && bo R j) = false) := HS'
          rcases Nat.eq_zero_or_pos j with hq | hq
          · subst hq
            have HN := Lib.hid (take_next Hr.out hjR.out (at_zero HS.out))
            go_wp2_with fail
            go_roundw
            case rel => exact ⟨0, by omega, by go_num, HN.out⟩
            case measure => simp [Go.RowKit.intOf]
          · obtain ⟨q, rfl⟩ : ∃ q, j = q + 1 := ⟨j - 1, by omega⟩
            have hq0 : (0 : Int) < ((q + 1 : Nat) : Int) := by omega
            have hcq := HB.out q (by omega)
            obtain ⟨b2, hb2⟩ : ∃ b2, bo R q = b2 := ⟨_, rfl⟩
            rw [hb2] at hcq
            have Hb2 := Lib.hid hb2
            clear hb2 hq
            cases b2
            · have HN := Lib.hid (take_next Hr.out hjR.out (at_succ HS.out (t := false) (by rw [Hb2.out]; rfl)))
              go_wp2_with fail
              go_roundw
              case rel => exact ⟨q + 1, by omega, by go_num, HN.out⟩
              case measure => simp [Go.RowKit.intOf]; omega
            · obtain ⟨e2, he2⟩ : ∃ e2, els[q]? = some e2 := ⟨els[q]'(by omega), List.getElem?_eq_getElem (by omega)⟩
              obtain ⟨ge2, m2, nn2, a2, j2, cc2, hao2, hge2, d1, d2, d3, hle2⟩ := HE.out.at he2
              simp only [Option.some.injEq, Addr.mk.injEq, and_true] at hao2
              subst hao2
              have cT := takes_any _ _ r wr hle2
              unfold elV at cT
              have He2 := Lib.hid he2
              clear he2 hle2
              go_wp2_with fail
              refine cT.mono ?_
              rintro x w2 ⟨rfl, hb⟩
              have HR2 := Lib.hid (Hr.out.step (by omega) hb)
              have HN := Lib.hid (take_next HR2.out hjR.out (at_succ HS.out (t := takesL e2 r) (by rw [Hb2.out, He2.out]; rfl)))
              have hfr2 : w2.frozen? ⟨g, q + 1, none⟩ = false := HR2.out.own.frozenAt _
              have hcj2 : w2.cell? ⟨g, q + 1, none⟩ = some (.bool (bo R (q + 1))) := by rw [hb.cell (p := ⟨g, q + 1, none⟩) hg2]; exact HB.out _ (by omega)
              clear cT hb
              generalize takesL e2 r = tk at HN
              go_wp2_with fail
              go_roundw
              case rel => exact ⟨q + 1, by omega, by go_num, by first | exact HN.out | (have := HN.out; simpa using this)⟩
              case measure => simp [Go.RowKit.intOf]; omega
        · cases b
          · have HS : Hid ((isStar els[j]? && bo R j) = false) := HS'
            rcases Nat.eq_zero_or_pos j with hq | hq
            · subst hq
              have HN := Lib.hid (take_next Hr.out hjR.out (at_zero HS.out))
              go_wp2_with fail
              go_roundw
              case rel => exact ⟨0, by omega, by go_num, HN.out⟩
              case measure => simp [Go.RowKit.intOf]
            · obtain ⟨q, rfl⟩ : ∃ q, j = q + 1 := ⟨j - 1, by omega⟩
              have hq0 : (0 : Int) < ((q + 1 : Nat) : Int) := by omega
              have hcq := HB.out q (by omega)
              obtain ⟨b2, hb2⟩ : ∃ b2, bo R q = b2 := ⟨_, rfl⟩
              rw [hb2] at hcq
              have Hb2 := Lib.hid hb2
              clear hb2 hq
              cases b2
              · have HN := Lib.hid (take_next Hr.out hjR.out (at_succ HS.out (t := false) (by rw [Hb2.out]; rfl)))
                go_wp2_with fail
                go_roundw
                case rel => exact ⟨q + 1, by omega, by go_num, HN.out⟩
                case measure => simp [Go.RowKit.intOf]; omega
              · obtain ⟨e2, he2⟩ : ∃ e2, els[q]? = some e2 := ⟨els[q]'(by omega), List.getElem?_eq_getElem (by omega)⟩
                obtain ⟨ge2, m2, nn2, a2, j2, cc2, hao2, hge2, d1, d2, d3, hle2⟩ := HE.out.at he2
                simp only [Option.some.injEq, Addr.mk.injEq, and_true] at hao2
                subst hao2
                have cT := takes_any _ _ r wr hle2
                unfold elV at cT
                have He2 := Lib.hid he2
                clear he2 hle2
                go_wp2_with fail
                refine cT.mono ?_
                rintro x w2 ⟨rfl, hb⟩
                have HR2 := Lib.hid (Hr.out.step (by omega) hb)
                have HN := Lib.hid (take_next HR2.out hjR.out (at_succ HS.out (t := takesL e2 r) (by rw [Hb2.out, He2.out]; rfl)))
                have hfr2 : w2.frozen? ⟨g, q + 1, none⟩ = false := HR2.out.own.frozenAt _
                have hcj2 : w2.cell? ⟨g, q + 1, none⟩ = some (.bool (bo R (q + 1))) := by rw [hb.cell (p := ⟨g, q + 1, none⟩) hg2]; exact HB.out _ (by omega)
                clear cT hb
                generalize takesL e2 r = tk at HN
                go_wp2_with fail
                go_roundw
                case rel => exact ⟨q + 1, by omega, by go_num, by first | exact HN.out | (have := HN.out; simpa using this)⟩
                case measure => simp [Go.RowKit.intOf]; omega
          · have HS : Hid ((isStar els[j]? && bo R j) = true) := HS'
            rcases Nat.eq_zero_or_pos j with hq | hq
            · subst hq
              have HN := Lib.hid (take_next Hr.out hjR.out (at_zero HS.out))
              go_wp2_with fail
              go_roundw
              case rel => exact ⟨0, by omega, by go_num, HN.out⟩
              case measure => simp [Go.RowKit.intOf]
            · obtain ⟨q, rfl⟩ : ∃ q, j = q + 1 := ⟨j - 1, by omega⟩
              have hq0 : (0 : Int) < ((q + 1 : Nat) : Int) := by omega
              have hcq := HB.out q (by omega)
              obtain ⟨b2, hb2⟩ : ∃ b2, bo R q = b2 := ⟨_, rfl⟩
              rw [hb2] at hcq
              have Hb2 := Lib.hid hb2
              clear hb2 hq
              cases b2
              · have HN := Lib.hid (take_next Hr.out hjR.out (at_succ HS.out (t := false) (by rw [Hb2.out]; rfl)))
                go_wp2_with fail
                go_roundw
                case rel => exact ⟨q + 1, by omega, by go_num, HN.out⟩
                case measure => simp [Go.RowKit.intOf]; omega
              · obtain ⟨e2, he2⟩ : ∃ e2, els[q]? = some e2 := ⟨els[q]'(by omega), List.getElem?_eq_getElem (by omega)⟩
                obtain ⟨ge2, m2, nn2, a2, j2, cc2, hao2, hge2, d1, d2, d3, hle2⟩ := HE.out.at he2
                simp only [Option.some.injEq, Addr.mk.injEq, and_true] at hao2
                subst hao2
                have cT := takes_any _ _ r wr hle2
                unfold elV at cT
                have He2 := Lib.hid he2
                clear he2 hle2
                go_wp2_with fail
                refine cT.mono ?_
                rintro x w2 ⟨rfl, hb⟩
                have HR2 := Lib.hid (Hr.out.step (by omega) hb)
                have HN := Lib.hid (take_next HR2.out hjR.out (at_succ HS.out (t := takesL e2 r) (by rw [Hb2.out, He2.out]; rfl)))
                have hfr2 : w2.frozen? ⟨g, q + 1, none⟩ = false := HR2.out.own.frozenAt _
                have hcj2 : w2.cell? ⟨g, q + 1, none⟩ = some (.bool (bo R (q + 1))) := by rw [hb.cell (p := ⟨g, q + 1, none⟩) hg2]; exact HB.out _ (by omega)
                clear cT hb
                generalize takesL e2 r = tk at HN
                go_wp2_with fail
                go_roundw
                case rel => exact ⟨q + 1, by omega, by go_num, by first | exact HN.out | (have := HN.out; simpa using this)⟩
                case measure => simp [Go.RowKit.intOf]; omega
      · have hz : ¬ (j : Int) < els.length := by omega
        have HS : Hid ((isStar els[j]? && bo R j) = false) := Lib.hid (stay_end (by omega))
        rcases Nat.eq_zero_or_pos j with hq | hq
        · subst hq
          have HN := Lib.hid (take_next Hr.out hjR.out (at_zero HS.out))
          go_wp2_with fail
          go_roundw
          case rel => exact ⟨0, by omega, by go_num, HN.out⟩
          case measure => simp [Go.RowKit.intOf]
        · obtain ⟨q, rfl⟩ : ∃ q, j = q + 1 := ⟨j - 1, by omega⟩
          have hq0 : (0 : Int) < ((q + 1 : Nat) : Int) := by omega
          have hcq := HB.out q (by omega)
          obtain ⟨b2, hb2⟩ : ∃ b2, bo R q = b2 := ⟨_, rfl⟩
          rw [hb2] at hcq
          have Hb2 := Lib.hid hb2
          clear hb2 hq
          cases b2
          · have HN := Lib.hid (take_next Hr.out hjR.out (at_succ HS.out (t := false) (by rw [Hb2.out]; rfl)))
            go_wp2_with fail
            go_roundw
            case rel => exact ⟨q + 1, by omega, by go_num, HN.out⟩
            case measure => simp [Go.RowKit.intOf]; omega
          · obtain ⟨e2, he2⟩ : ∃ e2, els[q]? = some e2 := ⟨els[q]'(by omega), List.getElem?_eq_getElem (by omega)⟩
            obtain ⟨ge2, m2, nn2, a2, j2, cc2, hao2, hge2, d1, d2, d3, hle2⟩ := HE.out.at he2
            subst hao2
            have cT := takes_any _ _ r wr hle2
            unfold elV at cT
            have He2 := Lib.hid he2
            clear he2 hle2
            go_wp2_with fail
            refine cT.mono ?_
            rintro x w2 ⟨rfl, hb⟩
            have HR2 := Lib.hid (Hr.out.step (by omega) hb)
            have HN := Lib.hid (take_next HR2.out hjR.out (at_succ HS.out (t := takesL e2 r) (by rw [Hb2.out, He2.out]; rfl)))
            have hfr2 : w2.frozen? ⟨g, q + 1, none⟩ = false := HR2.out.own.frozenAt _
            have hcj2 : w2.cell? ⟨g, q + 1, none⟩ = some (.bool (bo R (q + 1))) := by rw [hb.cell (p := ⟨g, q + 1, none⟩) hg2]; exact HB.out _ (by omega)
            clear cT hb
            generalize takesL e2 r = tk at HN
            go_wp2_with fail
            go_roundw
            case rel => exact ⟨q + 1, by omega, by go_num, by first | exact HN.out | (have := HN.out; simpa using this)⟩
            case measure => simp [Go.RowKit.intOf]; omega
end GF
end Go.Proofs.YtechekdiadpmoaaDoor
