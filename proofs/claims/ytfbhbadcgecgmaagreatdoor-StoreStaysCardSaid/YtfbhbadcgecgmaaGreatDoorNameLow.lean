/- Layer 1: the contracts of name.Within, name.Parent, name.Base: what each answers, for every text. -/
import Derived.Test.YtfbhbadcgecgmaaGreatDoorMg1
import Derived.Test.YtfbhbadcgecgmaaGreatDoorNameFn
namespace Go.Proofs.YtfbhbadcgecgmaaGreatDoor
open Go.RowKit Go.Lib
namespace NI
open NF

theorem cut_any (s p : ByteArray) (w : World) :
    Calls Tryz.prog 135 #[.string s, .string p] w fun e w' => ∃ t : ByteArray, e = .returned (.tuple #[.string t, .bool (Lib.hasPrefix s.data.toList p.data.toList)]) ∧ t.data.toList = Lib.trimPrefix s.data.toList p.data.toList ∧ w = w' := by
  refine (Tryz.strings_CutPrefix s p w).mono ?_
  rintro e w' ⟨rfl, rfl⟩
  exact ⟨_, rfl, by simp, rfl⟩

theorem within_no {p q : List UInt8} (h : NP.pathL p = false) : NP.withinL p q = false := by unfold NP.withinL; rw [h]; rfl
theorem within_pre {p q : List UInt8} (h : Lib.hasPrefix p q = false) : NP.withinL p q = false := by unfold NP.withinL; rw [h]; simp
theorem within_yes {p q t : List UInt8} (h1 : NP.pathL p = true) (h2 : Lib.hasPrefix p q = true) (ht : t = Lib.trimPrefix p q) : NP.withinL p q = NP.restOk q t := by
  unfold NP.withinL
  rw [h1, h2, ht]
  unfold Lib.trimPrefix
  rw [if_pos h2]
  simp

set_option maxHeartbeats 800000 in
theorem within_any (p q : ByteArray) (w : World) (he : Env w) (hp : p.size ≤ maxLen) :
    Calls Tryz.prog 99 #[.string p, .string q] w fun e w' => e = .returned (.bool (NP.withinL p.data.toList q.data.toList)) ∧ Below w.heap.size w w' := by
  have cP := path_any p w he hp
  unfold maxLen at hp
  go_enter Tryz.func99, Tryz.ntmps99
  go_wp2_with fail
  refine cP.mono ?_
  rintro e w1 ⟨rfl, hb⟩
  have Hb := Lib.hid hb
  clear hb cP he
  cases hv : NP.pathL p.data.toList
  · have H := Lib.hid (within_no (q := q.data.toList) hv)
    clear hv
    go_wp2
    go_ret
    exact ⟨by rw [H.out]; rfl, Hb.out⟩
  · have Hv := Lib.hid hv
    clear hv
    have cC := cut_any p q w1
    go_wp2_with fail
    refine cC.mono ?_
    rintro e w2 ⟨t, rfl, ht, rfl⟩
    have Ht := Lib.hid ht
    clear cC ht
    cases hh : Lib.hasPrefix p.data.toList q.data.toList
    · have H := Lib.hid (within_pre hh)
      clear hh
      go_wp2
      go_ret
      exact ⟨by rw [H.out]; rfl, Hb.out⟩
    · have H := Lib.hid (within_yes Hv.out hh Ht.out)
      clear hh
      by_cases hq0 : q.toList = []
      · have Hq0 := Lib.hid hq0
        have hq1 : q.toList.isEmpty = true := by rw [hq0]; rfl
        clear hq0
        go_wp2
        go_ret
        refine ⟨?_, Hb.out⟩
        have e : q.data.toList = [] := by rw [← Lib.toList_data]; exact Hq0.out
        rw [H.out]
        unfold NP.restOk
        rw [e]
        rfl
      · have Hq0 := Lib.hid hq0
        have hq1 : q.toList.isEmpty = false := by simpa using hq0
        clear hq0
        by_cases ht0 : t.toList = []
        · have Ht0 := Lib.hid ht0
          have ht1 : t.toList.isEmpty = true := by rw [ht0]; rfl
          clear ht0
          go_wp2
          go_ret
          refine ⟨?_, Hb.out⟩
          have e : t.data.toList = [] := by rw [← Lib.toList_data]; exact Ht0.out
          rw [H.out]
          unfold NP.restOk
          rw [e]
          simp
        · have Ht0 := Lib.hid ht0
          have ht1 : t.toList.isEmpty = false := by simpa using ht0
          have hz : 0 < t.size := by
            rw [Lib.size_eq, ← Lib.toList_data]
            exact List.length_pos_iff.2 ht0
          have hzi : (0 : Int) < t.size := by omega
          clear ht0
          have Hh : Hid (t.data.toList.head? = some t[0]) := Lib.hid (by rw [List.head?_eq_getElem?]; exact Lib.data_getElem? t 0 hz)
          have Hfin : Hid (NP.restOk q.data.toList t.data.toList = (((t[0].toNat : Nat) : Int) == 47)) := Lib.hid (by
            unfold NP.restOk
            have e1 : q.data.toList ≠ [] := by rw [← Lib.toList_data]; exact Hq0.out
            have e2 : t.data.toList ≠ [] := by rw [← Lib.toList_data]; exact Ht0.out
            rw [Hh.out, decide_eq_false e1, decide_eq_false e2, Bool.false_or, Bool.false_or, Bool.eq_iff_iff]
            simp only [decide_eq_true_eq, Option.some.injEq, beq_iff_eq]
            constructor
            · intro h; rw [h]; rfl
            · intro h; apply UInt8.toNat_inj.1; show _ = 47; omega)
          go_wp2
          go_ret
          exact ⟨by rw [H.out, Hfin.out]; rfl, Hb.out⟩

/- Join -/
end NI
namespace NC
open NF NI

theorem path_short {l : List UInt8} (h : NP.pathL l = true) : l.length ≤ 400 := by
  unfold NP.pathL at h
  simp only [Bool.and_eq_true, decide_eq_true_eq] at h
  exact h.1.1
def TextPost (l : List UInt8) (w : World) (e : Ending) (w' : World) : Prop := ∃ t : ByteArray, e = .returned (.string t) ∧ t.data.toList = l ∧ Below w.heap.size w w'
theorem extract_to (s : ByteArray) (i : Nat) : (s.extract 0 i).data.toList = s.data.toList.take i := Lib.extract_from_zero s i
theorem extract_from (s : ByteArray) (i : Nat) : (s.extract i s.size).data.toList = s.data.toList.drop i := by
  rw [Lib.extract_data, List.take_of_length_le]
  rw [List.length_drop, Lib.size_eq]
  omega
theorem last_any (s : ByteArray) (w : World) (hs : s.size ≤ 400) :
    Calls Tryz.prog 128 #[.string s, .int .u8 47] w fun e w' => e = .returned (.int .i64 (Lib.lastIndexByte s 47)) ∧ w = w' := by
  refine (Tryz.strings_LastIndexByte s 47 (by omega) w).mono ?_
  rintro e w' ⟨rfl, rfl⟩
  exact ⟨rfl, rfl⟩
set_option maxHeartbeats 800000 in
theorem parent_any (s : ByteArray) (w : World) (he : Env w) (hs : s.size ≤ maxLen) :
    Calls Tryz.prog 94 #[.string s] w (TextPost (NP.parentL s.data.toList) w) := by
  have cP := path_any s w he hs
  clear he
  cases hp : NP.pathL s.data.toList
  · have Hf : Hid (NP.parentL s.data.toList = []) := Lib.hid (by unfold NP.parentL; rw [hp]; rfl)
    rw [hp] at cP
    clear hp
    go_enter Tryz.func94, Tryz.ntmps94
    go_wp2_with fail
    refine cP.mono ?_
    rintro e w1 ⟨rfl, hb⟩
    go_wp2
    go_ret
    exact ⟨_, rfl, by rw [Hf.out], hb⟩
  · have h4 : s.size ≤ 400 := by rw [Lib.size_eq]; exact path_short hp
    have Hf : Hid (NP.parentL s.data.toList = NP.upL s.data.toList) := Lib.hid (by unfold NP.parentL; rw [hp]; rfl)
    rw [hp] at cP
    clear hp
    have cL := fun W => last_any s W h4
    rcases NP.last_at s with ⟨h1, h2⟩ | ⟨i, hi, h1, h2, h3⟩
    · rw [h1] at cL
      have Hu := Lib.hid (NP.upL_none h2)
      clear h1 h2
      go_enter Tryz.func94, Tryz.ntmps94
      go_wp2_with fail
      refine cP.mono ?_
      rintro e w1 ⟨rfl, hb⟩
      go_wp2_with fail
      refine (cL _).mono ?_
      rintro e w2 ⟨rfl, rfl⟩
      go_wp2
      go_ret
      refine ⟨_, rfl, ?_, hb⟩
      rw [Hf.out, Hu.out]
      all_goals first | rfl | (simp; done) | (simp; left; decide)
    · rw [h1] at cL
      have Hu : Hid (NP.upL s.data.toList = s.data.toList.take i) := Lib.hid (by
        have := NP.upL_snoc (u := s.data.toList.take i) h3
        rw [← h2] at this
        exact this)
      have hiz : (i : Int) ≤ s.size := by omega
      clear h1 h2 h3
      go_enter Tryz.func94, Tryz.ntmps94
      go_wp2_with fail
      refine cP.mono ?_
      rintro e w1 ⟨rfl, hb⟩
      go_wp2_with fail
      refine (cL _).mono ?_
      rintro e w2 ⟨rfl, rfl⟩
      go_wp2
      go_ret
      refine ⟨_, rfl, ?_, hb⟩
      rw [Hf.out, Hu.out, ← extract_to]
      all_goals first | rfl | (simp; done) | (simp; left; decide)
end NC
end Go.Proofs.YtfbhbadcgecgmaaGreatDoor
