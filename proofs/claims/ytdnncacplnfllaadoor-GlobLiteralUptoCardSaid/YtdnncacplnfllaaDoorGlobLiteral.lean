/- The walk of GlobLiteral: it answers true, for every two texts of at most 1048576 bytes. -/
import Derived.Test.YtdnncacplnfllaaDoorGlobLit
import Derived.Test.YtdnncacplnfllaaDoorGlobLitE
import Derived.Test.YtdnncacplnfllaaDoorGlobAwake
import Derived.Test.YtdnncacplnfllaaDoorRefPath
import Derived.Test.YtdnncacplnfllaaDoorRefUp
namespace Go.Proofs.YtdnncacplnfllaaDoor
open Go.RowKit Go.Lib
namespace GL
open GP GM GH NF RQ RT NC LitN

theorem same_yes {a b : ByteArray} (h : a.data.toList = b.data.toList) : (a.toList == b.toList) = true := by rw [Lib.toList_data, Lib.toList_data, h]; simp
theorem same_no {a b : ByteArray} (h : ¬ a.data.toList = b.data.toList) : (a.toList == b.toList) = false := by rw [Lib.toList_data, Lib.toList_data]; simpa using h
set_option maxRecDepth 100000 in
set_option maxHeartbeats 3200000 in
theorem literal_law (q o : ByteArray) (w : World) (he : Env w) (hq : q.size ≤ 1048576) (ho : o.size ≤ 1048576) :
    Calls Tryd.prog 6 #[.string q, .string o] w (Ans true w) := by
  have cA := awake_any w he
  have He := Lib.hid he
  have hqm : q.size ≤ maxLen := Nat.le_trans hq (of_decide_eq_true rfl)
  have hom : o.size ≤ maxLen := Nat.le_trans ho (of_decide_eq_true rfl)
  clear he
  go_enter Tryd.func6, Tryd.ntmps6
  go_wp2_with fail
  refine cA.mono ?_
  rintro e w1 ⟨rfl, hb1⟩
  have Hb1 := Lib.hid hb1
  have cL := literal_any q w1 (He.out.below hb1) hqm
  clear hb1 cA
  go_wp2_with fail
  refine cL.mono ?_
  rintro e w2 ⟨p, rfl, hp, hb2⟩
  have Hb2 := Lib.hid (Hb1.out.trans (hb2.mono Hb1.out.size))
  have cP := rpath_any q w2 hq
  clear hb2 cL
  cases hpath : NP.pathL q.data.toList
  · rw [hpath] at cP
    have hpe : p.data.toList = [] := by rw [hp]; unfold litA; rw [if_neg (by rw [hpath]; simp)]
    have hte := (GR.empty_of hpe).1
    clear hpath hp hpe
    go_wp2_with fail
    refine cP.mono ?_
    rintro e w3 ⟨rfl, hb3⟩
    have Hb3 := Lib.hid (Hb2.out.trans (hb3.mono Hb2.out.size))
    clear hb3 cP
    go_wp2_with fail
    go_ret
    exact ⟨rfl, Hb3.out⟩
  · rw [hpath] at cP
    have Hpath := Lib.hid hpath
    have hpl : p.data.toList = litL q.data.toList := by rw [hp]; unfold litA; rw [if_pos hpath]
    have Hp := Lib.hid hpl
    clear hpath hp hpl
    go_wp2_with fail
    refine cP.mono ?_
    rintro e w3 ⟨rfl, hb3⟩
    have Hb3 := Lib.hid (Hb2.out.trans (hb3.mono Hb2.out.size))
    clear hb3 cP
    by_cases h400 : 400 < p.size
    · have h400z : (400 : Int) < p.size := by omega
      go_wp2_with fail
      go_ret
      exact ⟨rfl, Hb3.out⟩
    · have h400z : ¬ (400 : Int) < p.size := by omega
      have hl4 : (litL q.data.toList).length ≤ 400 := by rw [← Hp.out, ← Lib.size_eq]; omega
      have hpm : p.size ≤ maxLen := Nat.le_trans (by omega : p.size ≤ 400) (of_decide_eq_true rfl)
      have Hl4 := Lib.hid hl4
      clear hl4
      go_wp2_with fail
      go_loop [6, 7] (fun s6 s7 => ∃ k : Nat, k ≤ q.size ∧ s7 = .int .i64 k ∧ s6 = .bool (decide (47 ∈ q.data.toList.take k))) (fun _ s7 => q.size - (Go.RowKit.intOf s7).toNat)
      case atStart => exact ⟨0, Nat.zero_le _, rfl, by simp⟩
      case round =>
        obtain ⟨k, hk, rfl, rfl⟩ := hrel
        by_cases hlt : k < q.size
        · have hz : (k : Int) < q.size := by omega
          have hx := Lib.data_getElem? q k hlt
          have hst : q.data.toList.take (k + 1) = q.data.toList.take k ++ [q[k]] := by rw [List.take_add_one, hx]; rfl
          by_cases hn : 47 ∈ q.data.toList.take k
          · have HF : Hid (decide (47 ∈ q.data.toList.take (k + 1)) = true) := Lib.hid (by rw [hst]; simp [hn])
            rw [decide_eq_true hn]
            clear hx hst hn
            go_wp2_with fail
            go_round
            case rel => exact ⟨k + 1, by omega, by go_num, by rw [HF.out]⟩
            case measure => simp [Go.RowKit.intOf]; omega
          · rw [decide_eq_false hn]
            by_cases h47 : q[k] = 47
            · have hb : ((((q[k]).toNat : Nat) : Int) == 47) = true := by rw [h47]; rfl
              have HF : Hid (decide (47 ∈ q.data.toList.take (k + 1)) = true) := Lib.hid (by rw [hst, h47]; simp)
              clear hx hst hn h47
              go_wp2_with fail
              go_round
              case rel => exact ⟨k + 1, by omega, by go_num, by rw [HF.out]⟩
              case measure => simp [Go.RowKit.intOf]; omega
            · have hb : ((((q[k]).toNat : Nat) : Int) == 47) = false := GR.byte_no h47
              have HF : Hid (decide (47 ∈ q.data.toList.take (k + 1)) = false) := Lib.hid (by
                rw [hst]
                simp only [List.mem_append, List.mem_singleton, decide_eq_false_iff_not, not_or]
                exact ⟨hn, fun e => h47 e.symm⟩)
              clear hx hst hn h47
              go_wp2_with fail
              go_round
              case rel => exact ⟨k + 1, by omega, by go_num, by rw [HF.out]⟩
              case measure => simp [Go.RowKit.intOf]; omega
        · have hz : ¬ (k : Int) < q.size := by omega
          have hta : q.data.toList.take k = q.data.toList := List.take_of_length_le (by rw [← Lib.size_eq]; omega)
          rw [hta]
          clear hta
          have cO := match_any p o w3 (He.out.below Hb3.out) hpm hom
          by_cases hs : 47 ∈ q.data.toList
          · rw [decide_eq_true hs]
            have hmo : matL p.data.toList o.data.toList = decide (o.data.toList = q.data.toList) := by rw [Hp.out]; exact mat_many Hpath.out Hl4.out hs
            have hmq : matL p.data.toList q.data.toList = true := by rw [Hp.out, mat_many Hpath.out Hl4.out hs]; simp
            rw [hmo] at cO
            have cQ := fun W hW => match_any p q W (He.out.below hW) hpm hqm
            rw [hmq] at cQ
            clear hs hmo hmq
            by_cases hoq : o.data.toList = q.data.toList
            · have hbe := same_yes hoq
              rw [decide_eq_true hoq] at cO
              clear hoq
              go_wp2_with fail
              refine cO.mono ?_
              rintro e w4 ⟨rfl, hb4⟩
              have Hb4 := Lib.hid (Hb3.out.trans (hb4.mono Hb3.out.size))
              have cQ2 := cQ w4 Hb4.out
              clear hb4 cO cQ
              go_wp2_with fail
              refine cQ2.mono ?_
              rintro e w5 ⟨rfl, hb5⟩
              have Hb5 := Lib.hid (Hb4.out.trans (hb5.mono Hb4.out.size))
              clear hb5 cQ2
              go_wp2_with fail
              go_ret
              exact ⟨rfl, Hb5.out⟩
            · have hbe := same_no hoq
              rw [decide_eq_false hoq] at cO
              clear hoq
              go_wp2_with fail
              refine cO.mono ?_
              rintro e w4 ⟨rfl, hb4⟩
              have Hb4 := Lib.hid (Hb3.out.trans (hb4.mono Hb3.out.size))
              have cQ2 := cQ w4 Hb4.out
              clear hb4 cO cQ
              go_wp2_with fail
              refine cQ2.mono ?_
              rintro e w5 ⟨rfl, hb5⟩
              have Hb5 := Lib.hid (Hb4.out.trans (hb5.mono Hb4.out.size))
              clear hb5 cQ2
              go_wp2_with fail
              go_ret
              exact ⟨rfl, Hb5.out⟩
          · rw [decide_eq_false hs]
            have hmo : matL p.data.toList o.data.toList = (NP.pathL o.data.toList && decide (NP.baseL o.data.toList = q.data.toList)) := by rw [Hp.out]; exact mat_one Hpath.out Hl4.out hs
            have hmq : matL p.data.toList q.data.toList = true := by
              rw [Hp.out, mat_one Hpath.out Hl4.out hs, Hpath.out]
              unfold NP.baseL
              rw [if_pos Hpath.out, NP.lastL_none hs]
              simp
            rw [hmo] at cO
            have cQ := fun W hW => match_any p q W (He.out.below hW) hpm hqm
            rw [hmq] at cQ
            have cR := fun W => rpath_any o W ho
            have cB := fun W => rbase_any o W ho
            clear hs hmo hmq
            cases hop : NP.pathL o.data.toList
            · rw [hop] at cO cR
              rw [Bool.false_and] at cO
              clear hop cB
              go_wp2_with fail
              refine cO.mono ?_
              rintro e w4 ⟨rfl, hb4⟩
              have Hb4 := Lib.hid (Hb3.out.trans (hb4.mono Hb3.out.size))
              have cQ2 := cQ w4 Hb4.out
              clear hb4 cO cQ
              go_wp2_with fail
              refine cQ2.mono ?_
              rintro e w5 ⟨rfl, hb5⟩
              have Hb5 := Lib.hid (Hb4.out.trans (hb5.mono Hb4.out.size))
              have cR2 := cR w5
              clear hb5 cQ2 cR
              go_wp2_with fail
              refine cR2.mono ?_
              rintro e w6 ⟨rfl, hb6⟩
              have Hb6 := Lib.hid (Hb5.out.trans (hb6.mono Hb5.out.size))
              clear hb6 cR2
              go_wp2_with fail
              go_ret
              exact ⟨rfl, Hb6.out⟩
            · rw [hop] at cO cR
              rw [Bool.true_and] at cO
              clear hop
              by_cases hbq : NP.baseL o.data.toList = q.data.toList
              · rw [decide_eq_true hbq] at cO
                have HBQ := Lib.hid hbq
                clear hbq
                go_wp2_with fail
                refine cO.mono ?_
                rintro e w4 ⟨rfl, hb4⟩
                have Hb4 := Lib.hid (Hb3.out.trans (hb4.mono Hb3.out.size))
                have cQ2 := cQ w4 Hb4.out
                clear hb4 cO cQ
                go_wp2_with fail
                refine cQ2.mono ?_
                rintro e w5 ⟨rfl, hb5⟩
                have Hb5 := Lib.hid (Hb4.out.trans (hb5.mono Hb4.out.size))
                have cR2 := cR w5
                clear hb5 cQ2 cR
                go_wp2_with fail
                refine cR2.mono ?_
                rintro e w6 ⟨rfl, hb6⟩
                have Hb6 := Lib.hid (Hb5.out.trans (hb6.mono Hb5.out.size))
                have cB2 := cB w6
                clear hb6 cR2 cB
                go_wp2_with fail
                refine cB2.mono ?_
                rintro e w7 ⟨t, rfl, ht, hb7⟩
                have Hb7 := Lib.hid (Hb6.out.trans (hb7.mono Hb6.out.size))
                have hbe := same_yes (ht.trans HBQ.out)
                clear hb7 cB2 ht
                go_wp2_with fail
                go_ret
                exact ⟨rfl, Hb7.out⟩
              · rw [decide_eq_false hbq] at cO
                have HBQ := Lib.hid hbq
                clear hbq
                go_wp2_with fail
                refine cO.mono ?_
                rintro e w4 ⟨rfl, hb4⟩
                have Hb4 := Lib.hid (Hb3.out.trans (hb4.mono Hb3.out.size))
                have cQ2 := cQ w4 Hb4.out
                clear hb4 cO cQ
                go_wp2_with fail
                refine cQ2.mono ?_
                rintro e w5 ⟨rfl, hb5⟩
                have Hb5 := Lib.hid (Hb4.out.trans (hb5.mono Hb4.out.size))
                have cR2 := cR w5
                clear hb5 cQ2 cR
                go_wp2_with fail
                refine cR2.mono ?_
                rintro e w6 ⟨rfl, hb6⟩
                have Hb6 := Lib.hid (Hb5.out.trans (hb6.mono Hb5.out.size))
                have cB2 := cB w6
                clear hb6 cR2 cB
                go_wp2_with fail
                refine cB2.mono ?_
                rintro e w7 ⟨t, rfl, ht, hb7⟩
                have Hb7 := Lib.hid (Hb6.out.trans (hb7.mono Hb6.out.size))
                have hbe := same_no (fun e => HBQ.out (ht.symm.trans e))
                clear hb7 cB2 ht
                go_wp2_with fail
                go_ret
                exact ⟨rfl, Hb7.out⟩
end GL
end Go.Proofs.YtdnncacplnfllaaDoor
