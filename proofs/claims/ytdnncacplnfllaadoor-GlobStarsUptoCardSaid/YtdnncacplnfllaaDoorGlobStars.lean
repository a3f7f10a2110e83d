/- The walk of GlobStars: it answers true, for every pattern and every path of at most 1048576 bytes. -/
import Derived.Test.YtdnncacplnfllaaDoorGlobAwake
import Derived.Test.YtdnncacplnfllaaDoorGlobStarsP
import Derived.Test.YtdnncacplnfllaaDoorRefPath
namespace Go.Proofs.YtdnncacplnfllaaDoor
open Go.RowKit Go.Lib
namespace GL
open GP GM GH NF RQ

theorem app_data (a b : ByteArray) : (a ++ b).data.toList = a.data.toList ++ b.data.toList := by simp
theorem app_size (a b : ByteArray) : (a ++ b).size = a.size + b.size := by simp
def okB (l : List UInt8) : Bool := match patL l with
  | .error _ => false
  | .ok _ => true
theorem chk_ok {l : List UInt8} (h : okB l = true) : chkL l = (0, 0) ∧ ∃ ps, patL l = .ok ps := by
  unfold okB at h
  unfold chkL
  split at h
  · cases h
  · rename_i ps hp
    rw [hp]
    exact ⟨rfl, ps, rfl⟩
theorem chk_bad {l : List UInt8} (h : okB l = false) : (chkL l).2 = 20 := by
  unfold okB at h
  unfold chkL
  split at h
  · rename_i k hp
    rw [hp]
  · cases h
def said (a b : Bool) : Bool := a == b
set_option maxRecDepth 100000 in
set_option maxHeartbeats 3200000 in
theorem stars_law (p q : ByteArray) (w : World) (he : Env w) (hp : p.size ≤ maxLen) (hq : q.size ≤ 1048576) :
    Calls Tryd.prog 9 #[.string p, .string q] w (Ans true w) := by
  have cA := awake_any w he
  have He := Lib.hid he
  have hqm : q.size ≤ maxLen := by unfold maxLen; omega
  clear he
  go_enter Tryd.func9, Tryd.ntmps9
  go_wp2_with fail
  refine cA.mono ?_
  rintro e w1 ⟨rfl, hb1⟩
  have cP := rpath_any q w1 hq
  have Hb1 := Lib.hid hb1
  clear hb1 cA
  cases hpath : NP.pathL q.data.toList
  · rw [hpath] at cP
    clear hpath
    go_wp2_with fail
    refine cP.mono ?_
    rintro e w2 ⟨rfl, hb2⟩
    have Hb2 := Lib.hid (Hb1.out.trans (hb2.mono Hb1.out.size))
    clear hb2 cP
    go_wp2_with fail
    go_ret
    exact ⟨rfl, Hb2.out⟩
  · rw [hpath] at cP
    have H2 := Lib.hid (stars_all hpath)
    have H1 := Lib.hid (star_all hpath)
    have H4 := Lib.hid (stars_star_all hpath)
    have Hpath := Lib.hid hpath
    clear hpath
    go_wp2_with fail
    refine cP.mono ?_
    rintro e w2 ⟨rfl, hb2⟩
    have Hb2 := Lib.hid (Hb1.out.trans (hb2.mono Hb1.out.size))
    clear hb2 cP
    by_cases h40 : 40 < p.size
    · have h40z : (40 : Int) < p.size := by omega
      go_wp2_with fail
      go_ret
      exact ⟨rfl, Hb2.out⟩
    · have h40z : ¬ (40 : Int) < p.size := by omega
      have h40d : decide ((40 : Int) < p.size) = false := decide_eq_false h40z
      have c2 := match_any ⟨#[42, 42]⟩ q w2 (He.out.below Hb2.out) (of_decide_eq_true rfl) hqm
      have e2 : (ByteArray.mk #[42, 42]).data.toList = [42, 42] := rfl
      rw [e2, H2.out] at c2
      go_wp2_with fail
      refine c2.mono ?_
      rintro e w3 ⟨rfl, hb3⟩
      have Hb3 := Lib.hid (Hb2.out.trans (hb3.mono Hb2.out.size))
      have c1 := match_any ⟨#[42]⟩ q w3 (He.out.below Hb3.out) (of_decide_eq_true rfl) hqm
      have e1 : (ByteArray.mk #[42]).data.toList = [42] := rfl
      rw [e1, H1.out] at c1
      clear hb3 c2
      go_wp2_with fail
      refine c1.mono ?_
      rintro e w4 ⟨rfl, hb4⟩
      have Hb4 := Lib.hid (Hb3.out.trans (hb4.mono Hb3.out.size))
      have c4 := match_any ⟨#[42, 42, 47, 42]⟩ q w4 (He.out.below Hb4.out) (of_decide_eq_true rfl) hqm
      have e4 : (ByteArray.mk #[42, 42, 47, 42]).data.toList = [42, 42, 47, 42] := rfl
      rw [e4, H4.out] at c4
      clear hb4 c1
      go_wp2_with fail
      refine c4.mono ?_
      rintro e w5 ⟨rfl, hb5⟩
      have Hb5 := Lib.hid (Hb4.out.trans (hb5.mono Hb4.out.size))
      have cC := check_any p w5 (He.out.below Hb5.out) hp
      clear hb5 c4
      go_wp2_with fail
      refine cC.mono ?_
      rintro e w6 ⟨rfl, hb6⟩
      have Hb6 := Lib.hid (Hb5.out.trans (hb6.mono Hb5.out.size))
      clear hb6 cC
      go_wp2_with fail
      go_loop [7] (fun i => ∃ k : Nat, k ≤ p.size ∧ i = .int .i64 k ∧ 47 ∉ p.data.toList.take k) (fun i => p.size - (Go.RowKit.intOf i).toNat)
      case atStart => exact ⟨0, Nat.zero_le _, rfl, by simp⟩
      case round =>
        obtain ⟨k, hk, rfl, hn⟩ := hrel
        have Hn := Lib.hid hn
        clear hn
        by_cases hlt : k < p.size
        · have hz : (k : Int) < p.size := by omega
          have Hx := Lib.hid (Lib.data_getElem? p k hlt)
          by_cases h47 : p[k] = 47
          · have hb : ((((p[k]).toNat : Nat) : Int) == 47) = true := by rw [h47]; rfl
            clear h47
            go_wp2_with fail
            go_ret
            exact ⟨rfl, Hb6.out⟩
          · have hb : ((((p[k]).toNat : Nat) : Int) == 47) = false := GR.byte_no h47
            have HF : Hid (47 ∉ p.data.toList.take (k + 1)) := Lib.hid (by
              rw [List.take_add_one, Hx.out]
              simp only [Option.toList_some, List.mem_append, List.mem_singleton, not_or]
              exact ⟨Hn.out, fun e => h47 e.symm⟩)
            clear h47
            go_wp2_with fail
            go_round
            case rel => exact ⟨k + 1, by omega, by go_num, HF.out⟩
            case measure => simp [Go.RowKit.intOf]; omega
        · have hz : ¬ (k : Int) < p.size := by omega
          have HF : Hid (47 ∉ p.data.toList) := Lib.hid (by
            have := Hn.out
            rw [List.take_of_length_le (by rw [← Lib.size_eq]; omega)] at this
            exact this)
          cases hok : okB p.data.toList
          · have hce : (((chkL p.data.toList).2 : Nat) : Int) = 20 := by rw [chk_bad hok]; rfl
            have hcb : ((((chkL p.data.toList).2 : Nat) : Int) == 0) = false := beq_eq_false_iff_ne.2 (by omega)
            clear hok
            generalize chkL p.data.toList = ch at hce hcb
            go_wp2_with fail
            go_ret
            exact ⟨rfl, Hb6.out⟩
          · obtain ⟨hce, ps, hps⟩ := chk_ok hok
            rw [hce]
            have c7 := match_any (⟨#[42, 42, 47]⟩ ++ p) q w6 (He.out.below Hb6.out) (by rw [app_size]; unfold maxLen; have : (ByteArray.mk #[42, 42, 47]).size = 3 := rfl; omega) hqm
            rw [app_data] at c7
            have e3 : (ByteArray.mk #[42, 42, 47]).data.toList = [42, 42, 47] := rfl
            rw [e3] at c7
            have hsz3 : (⟨#[42, 42, 47]⟩ ++ p : ByteArray).size ≤ 9223372036854775807 := by rw [app_size]; have : (ByteArray.mk #[42, 42, 47]).size = 3 := rfl; omega
            by_cases h22 : p.data.toList = [42, 42]
            · have hb2 : (p.toList == [42, 42]) = true := by rw [Lib.toList_data, h22]; rfl
              clear hok hce h22 hps
              go_wp2_with fail
              refine c7.mono ?_
              rintro e w7 ⟨rfl, hb7⟩
              have Hb7 := Lib.hid (Hb6.out.trans (hb7.mono Hb6.out.size))
              have c8 := match_any p q w7 (He.out.below Hb7.out) hp hqm
              clear hb7 c7
              generalize matL ([42, 42, 47] ++ p.data.toList) q.data.toList = A
              generalize matL p.data.toList q.data.toList = B at c8
              go_wp2_with fail
              refine c8.mono ?_
              rintro e w8 ⟨rfl, hb8⟩
              have Hb8 := Lib.hid (Hb7.out.trans (hb8.mono Hb7.out.size))
              clear hb8 c8
              cases A <;> cases B
              all_goals go_wp2_with fail
              all_goals go_ret
              all_goals exact ⟨rfl, Hb8.out⟩
            · have HD := Lib.hid (stars_deep Hpath.out HF.out (by rw [← Lib.size_eq]; omega) hps h22)
              have hap : ([42, 42, 47] ++ p.data.toList : List UInt8) = 42 :: 42 :: 47 :: p.data.toList := rfl
              rw [hap, HD.out] at c7
              clear hok hce h22 hps
              go_wp2_with fail
              refine c7.mono ?_
              rintro e w7 ⟨rfl, hb7⟩
              have Hb7 := Lib.hid (Hb6.out.trans (hb7.mono Hb6.out.size))
              have c8 := match_any p q w7 (He.out.below Hb7.out) hp hqm
              clear hb7 c7
              generalize matL p.data.toList q.data.toList = B at c8
              go_wp2_with fail
              refine c8.mono ?_
              rintro e w8 ⟨rfl, hb8⟩
              have Hb8 := Lib.hid (Hb7.out.trans (hb8.mono Hb7.out.size))
              clear hb8 c8
              cases B
              all_goals go_wp2_with fail
              all_goals go_ret
              all_goals exact ⟨rfl, Hb8.out⟩
end GL
end Go.Proofs.YtdnncacplnfllaaDoor
