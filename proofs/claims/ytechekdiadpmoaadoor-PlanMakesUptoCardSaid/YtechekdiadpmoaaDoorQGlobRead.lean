/- Layer 2: the contracts of readRune and readSpan. -/
import Derived.Test.YtechekdiadpmoaaDoorQNameSplit
import Derived.Test.YtechekdiadpmoaaDoorQGlobMem
import Derived.Laws.ResultCell
set_option linter.all false
set_option maxRecDepth 100000
set_option maxHeartbeats 25600000
namespace Go.Proofs.YtechekdiadpmoaaDoor
open Go.RowKit Go.Lib
namespace GR
open GP GM NF

theorem cut_any (s p : ByteArray) (w : World) :
    Calls Tryd.prog 110 #[.string s, .string p] w fun e w' => ∃ t : ByteArray, e = .returned (.tuple #[.string t, .bool (Lib.hasPrefix s.data.toList p.data.toList)]) ∧ t.data.toList = Lib.trimPrefix s.data.toList p.data.toList ∧ w = w' := by
  refine (Tryd.strings_CutPrefix s p w).mono ?_
  rintro e w' ⟨rfl, rfl⟩
  exact ⟨_, rfl, by simp, rfl⟩
/-- One byte cut off ahead. -/
theorem cut_one (s : ByteArray) (c : UInt8) (w : World) :
    Calls Tryd.prog 110 #[.string s, .string ⟨#[c]⟩] w fun e w' => ∃ t : ByteArray, e = .returned (.tuple #[.string t, .bool (decide (s.data.toList.head? = some c))]) ∧ t.data.toList = (if s.data.toList.head? = some c then s.data.toList.tail else s.data.toList) ∧ w = w' := by
  refine (cut_any s ⟨#[c]⟩ w).mono ?_
  rintro e w' ⟨t, rfl, ht, rfl⟩
  have key : Lib.hasPrefix s.data.toList [c] = decide (s.data.toList.head? = some c) := by
    unfold Lib.hasPrefix
    cases s.data.toList with
    | nil => simp
    | cons x r =>
      simp only [List.isPrefixOf, Bool.and_true, List.head?_cons, Option.some.injEq]
      by_cases h : x = c
      · simp [h]
      · simp [h, Ne.symm h]
  have e0 : (ByteArray.mk #[c]).data.toList = [c] := rfl
  rw [e0] at ht
  refine ⟨t, by rw [e0, key], ?_, rfl⟩
  rw [ht]
  unfold Lib.trimPrefix
  rw [key]
  by_cases h : s.data.toList.head? = some c
  · rw [if_pos h, if_pos (by simpa using h)]
    simp
  · rw [if_neg h, if_neg (by simpa using h)]
theorem dec_any (s : ByteArray) (w : World) (he : Env w) :
    Calls Tryd.prog 141 #[.string s] w fun e w' => e = .returned (.tuple #[.int .i32 (decL s.data.toList).1, .int .i64 (decL s.data.toList).2]) ∧ Below w.heap.size w w' := by
  have e : decL s.data.toList = Lib.decodeGo s := by
    unfold decL Lib.decodeGo
    have hd := Lib.decodeL_drop s 0
    rw [List.drop_zero] at hd
    by_cases h : s.data.toList = []
    · rw [if_pos h, if_pos (by rw [Lib.size_eq, h]; rfl)]
    · rw [if_neg h, if_neg (by rw [Lib.size_eq]; intro e; exact h (List.eq_nil_of_length_eq_zero e)), hd]
  rw [e]
  exact Tryd.utf8_DecodeRuneInString s w he.tabs
/-- A pair of numbers that a call hands back. -/
def Pair (a b : Nat) (w : World) (e : Ending) (w' : World) : Prop := e = .returned (.tuple #[.int .i32 a, .int .i64 b]) ∧ Below w.heap.size w w'
set_option maxHeartbeats 800000 in
theorem readRune_any (s : ByteArray) (w : World) (he : Env w) (hs : s.size ≤ maxLen) :
    Calls Tryd.prog 125 #[.string s] w (Pair (runeL s.data.toList).1 (runeL s.data.toList).2 w) := by
  have cC := cut_one s 92 w
  unfold maxLen at hs
  have He := Lib.hid he
  clear he
  by_cases hh : s.data.toList.head? = some 92
  · have HF : Hid (runeL s.data.toList = ((decL s.data.toList.tail).1, if 0 < (decL s.data.toList.tail).2 then (decL s.data.toList.tail).2 + 1 else 0)) := Lib.hid (by unfold runeL; rw [if_pos hh])
    rw [decide_eq_true hh, if_pos hh] at cC
    clear hh
    go_enter Tryd.func125, Tryd.ntmps125
    go_wp2_with fail
    refine cC.mono ?_
    rintro e w1 ⟨t, rfl, ht, rfl⟩
    have cD := dec_any t w He.out
    rw [ht] at cD
    have hle := decL_le s.data.toList.tail
    rw [List.length_tail, ← Lib.size_eq] at hle
    generalize decL s.data.toList.tail = d at HF cD hle
    clear ht cC
    go_wp2_with fail
    refine cD.mono ?_
    rintro e w1 ⟨rfl, hb⟩
    have Hb := Lib.hid hb
    clear hb cD
    by_cases hd : 0 < d.2
    · have hz : (0 : Int) < (d.2 : Nat) := by omega
      rw [if_pos hd] at HF
      go_wp2
      go_ret2
      exact ⟨by rw [HF.out]; go_num, Hb.out⟩
    · have hz : ¬ (0 : Int) < (d.2 : Nat) := by omega
      rw [if_neg hd] at HF
      have h0 : Hid (d.2 = 0) := Lib.hid (by omega)
      go_wp2
      go_ret2
      exact ⟨by rw [HF.out, h0.out]; rfl, Hb.out⟩
  · have HF : Hid (runeL s.data.toList = decL s.data.toList) := Lib.hid (by unfold runeL; rw [if_neg hh])
    rw [decide_eq_false hh, if_neg hh] at cC
    clear hh
    go_enter Tryd.func125, Tryd.ntmps125
    go_wp2_with fail
    refine cC.mono ?_
    rintro e w1 ⟨t, rfl, ht, rfl⟩
    have cD := dec_any t w He.out
    rw [ht] at cD
    have hle := decL_le s.data.toList
    rw [← Lib.size_eq] at hle
    generalize decL s.data.toList = d at HF cD hle
    clear ht cC
    go_wp2_with fail
    refine cD.mono ?_
    rintro e w1 ⟨rfl, hb⟩
    have Hb := Lib.hid hb
    clear hb cD
    go_wp2
    go_ret2
    exact ⟨by rw [HF.out]; rfl, Hb.out⟩
/- readSpan -/
theorem drop_data (s : ByteArray) (k : Nat) : (s.extract k s.size).data.toList = s.data.toList.drop k := by
  rw [Lib.extract_data, List.take_of_length_le]
  rw [List.length_drop, Lib.size_eq]
  omega
theorem empty_of {t : ByteArray} (h : t.data.toList = []) : t.toList.isEmpty = true ∧ t.size = 0 := by
  constructor
  · rw [Lib.toList_data, h]; rfl
  · rw [Lib.size_eq, h]; rfl
theorem cons_of {t : ByteArray} {x : UInt8} {r : List UInt8} (h : t.data.toList = x :: r) : t.toList.isEmpty = false ∧ ∃ hp : 0 < t.size, t[0]'hp = x := by
  have hp : 0 < t.size := by rw [Lib.size_eq, h]; simp
  refine ⟨by rw [Lib.toList_data, h]; rfl, hp, ?_⟩
  have := Lib.data_getElem? t 0 hp
  rw [h] at this
  simp at this
  exact this.symm
theorem byte_yes {x c : UInt8} (h : x = c) : (((x.toNat : Nat) : Int) == (c.toNat : Int)) = true := by rw [h]; simp
theorem byte_no {x c : UInt8} (h : x ≠ c) : (((x.toNat : Nat) : Int) == (c.toNat : Int)) = false := by
  apply beq_eq_false_iff_ne.2
  intro e
  apply h
  apply UInt8.toNat_inj.1
  omega
/-- A span that a call hands back, and how long it is. -/
def SpanIs (a : Sp × Nat) (w : World) (e : Ending) (w' : World) : Prop := e = .returned (.tuple #[.agg #[.int .i32 a.1.1, .int .i32 a.1.2], .int .i64 a.2]) ∧ Below w.heap.size w w'
theorem span_no {l : List UInt8} (h : (l.drop (runeL l).2).head? ≠ some 45) : spanL l = (((runeL l).1, (runeL l).1), (runeL l).2) := by unfold spanL; rw [if_neg h]
theorem span_end {l : List UInt8} (h : (l.drop (runeL l).2).head? = some 45) (h2 : (l.drop (runeL l).2).tail = [] ∨ (l.drop (runeL l).2).tail.head? = some 93) : spanL l = (((runeL l).1, (runeL l).1), (runeL l).2) := by unfold spanL; rw [if_pos h, if_pos h2]
theorem span_bad {l : List UInt8} (h : (l.drop (runeL l).2).head? = some 45) (h2 : ¬ ((l.drop (runeL l).2).tail = [] ∨ (l.drop (runeL l).2).tail.head? = some 93)) (h3 : (runeL (l.drop (runeL l).2).tail).2 = 0) : spanL l = ((0, 0), 0) := by unfold spanL; rw [if_pos h, if_neg h2, if_pos h3]
theorem span_two {l : List UInt8} (h : (l.drop (runeL l).2).head? = some 45) (h2 : ¬ ((l.drop (runeL l).2).tail = [] ∨ (l.drop (runeL l).2).tail.head? = some 93)) (h3 : (runeL (l.drop (runeL l).2).tail).2 ≠ 0) :
    spanL l = (((runeL l).1, (runeL (l.drop (runeL l).2).tail).1), (runeL l).2 + 1 + (runeL (l.drop (runeL l).2).tail).2) := by unfold spanL; rw [if_pos h, if_neg h2, if_neg h3]
set_option maxHeartbeats 1600000 in
theorem readSpan_any (s : ByteArray) (w : World) (he : Env w) (hs : s.size ≤ 400) :
    Calls Tryd.prog 142 #[.string s] w (SpanIs (spanL s.data.toList) w) := by
  have He := Lib.hid he
  clear he
  have hw1 : Below w.heap.size w (w.alloc (.cells #[.int .i32 0, .int .i32 0] 168)) := (Below.refl _ _).alloc (Nat.le_refl _) _
  have cR := readRune_any s (w.alloc (.cells #[.int .i32 0, .int .i32 0] 168)) (He.out.below hw1) (by unfold maxLen; omega)
  have hle := runeL_le s.data.toList
  rw [← Lib.size_eq] at hle
  have Hno := Lib.hid (span_no (l := s.data.toList))
  have Hend := Lib.hid (span_end (l := s.data.toList))
  have Hbad := Lib.hid (span_bad (l := s.data.toList))
  have Htwo := Lib.hid (span_two (l := s.data.toList))
  have Hw1 := Lib.hid hw1
  clear hw1
  generalize hf : runeL s.data.toList = f at cR hle Hno Hend Hbad Htwo
  clear hf
  have hk1 : (f.2 : Int) ≤ s.size := by omega
  go_enter Tryd.func142, Tryd.ntmps142
  go_wp2_with fail
  refine cR.mono ?_
  rintro e w2 ⟨rfl, hb2⟩
  have hcr : w2.cell? ⟨w.heap.size, 0, none⟩ = some (.int .i32 0) ∧ w2.cell? ⟨w.heap.size, 1, none⟩ = some (.int .i32 0) := by
    rw [hb2.cell (p := ⟨w.heap.size, 0, none⟩) (by simp), hb2.cell (p := ⟨w.heap.size, 1, none⟩) (by simp)]
    exact ⟨World.cell?_alloc_at _ _ _ _ rfl, World.cell?_alloc_at _ _ _ _ rfl⟩
  have hfr : w2.frozen? ⟨w.heap.size, 0, none⟩ = false ∧ w2.frozen? ⟨w.heap.size, 1, none⟩ = false := by
    rw [hb2.frozen (p := ⟨w.heap.size, 0, none⟩) (by simp), hb2.frozen (p := ⟨w.heap.size, 1, none⟩) (by simp)]
    exact ⟨World.frozen?_alloc_at _ _ _ _ rfl, World.frozen?_alloc_at _ _ _ _ rfl⟩
  obtain ⟨hcr0, hcr1⟩ := hcr
  obtain ⟨hfr0, hfr1⟩ := hfr
  have Hb2 := Lib.hid hb2
  clear hb2 cR
  have cC := cut_one (s.extract f.2 s.size) 45 w2
  rw [drop_data] at cC
  by_cases h45 : (s.data.toList.drop f.2).head? = some 45
  · rw [decide_eq_true h45, if_pos h45] at cC
    go_wp2_with fail
    refine cC.mono ?_
    rintro e w3 ⟨t, rfl, ht, rfl⟩
    clear cC
    cases htl : (s.data.toList.drop f.2).tail with
    | nil =>
      have HF := Lib.hid (Hend.out h45 (.inl htl))
      rw [htl] at ht
      have hte := (empty_of ht).1
      clear h45 ht htl
      go_wp2_with fail
      refine bodyPost_ret (v := .tuple #[.agg #[.int .i32 f.1, .int .i32 f.1], .int .i64 f.2]) ?_ rfl ⟨by rw [HF.out], ?_⟩
      · rw [results_cell_tmp rfl]
        go_simp
      · exact ((Hw1.out.trans (Hb2.out.mono (by simp))).setCell (p := ⟨w.heap.size, 0, none⟩) (Nat.le_refl _) _).setCell (p := ⟨w.heap.size, 1, none⟩) (Nat.le_refl _) _
    | cons x r =>
      rw [htl] at ht
      obtain ⟨hte, hp, hx⟩ := cons_of ht
      have hz : (0 : Int) < t.size := by omega
      by_cases h93 : x = 93
      · have HF := Lib.hid (Hend.out h45 (.inr (by rw [htl, h93]; rfl)))
        have hb93 : ((((t[0]).toNat : Nat) : Int) == 93) = true := by rw [hx]; exact byte_yes h93
        clear h45 ht htl h93 hx
        go_wp2_with fail
        refine bodyPost_ret (v := .tuple #[.agg #[.int .i32 f.1, .int .i32 f.1], .int .i64 f.2]) ?_ rfl ⟨by rw [HF.out], ?_⟩
        · rw [results_cell_tmp rfl]
          go_simp
        · exact ((Hw1.out.trans (Hb2.out.mono (by simp))).setCell (p := ⟨w.heap.size, 0, none⟩) (Nat.le_refl _) _).setCell (p := ⟨w.heap.size, 1, none⟩) (Nat.le_refl _) _
      · have hb93 : ((((t[0]).toNat : Nat) : Int) == 93) = false := by rw [hx]; exact byte_no h93
        have hnot : ¬ ((s.data.toList.drop f.2).tail = [] ∨ (s.data.toList.drop f.2).tail.head? = some 93) := by
          rw [htl]
          simp [h93]
        have hlen : (s.data.toList.drop f.2).tail.length + 1 + f.2 ≤ s.size := by
          rw [htl, Lib.size_eq]
          have e : (s.data.toList.drop f.2).length = (x :: r).length + 1 := by
            rw [← htl]
            cases hd : s.data.toList.drop f.2 with
            | nil => rw [hd] at h45; simp at h45
            | cons y q => simp
          rw [List.length_drop] at e
          omega
        have hts : t.size ≤ maxLen := by
          rw [Lib.size_eq, ht, ← htl]
          unfold maxLen
          omega
        have HTail : Hid (t.data.toList = (s.data.toList.drop f.2).tail) := Lib.hid (by rw [ht, htl])
        have hl2 := runeL_le (s.data.toList.drop f.2).tail
        have hbad := Hbad.out h45 hnot
        have htwo := Htwo.out h45 hnot
        have cR2 := readRune_any t w2 (He.out.below (Hw1.out.trans (Hb2.out.mono (by simp)))) hts
        rw [HTail.out] at cR2
        generalize runeL (s.data.toList.drop f.2).tail = d at hbad htwo cR2 hl2
        have hsum : (f.2 : Int) + 1 + d.2 ≤ 400 := by omega
        have Hbd := Lib.hid hbad
        have Htw := Lib.hid htwo
        clear h45 ht htl h93 hx hnot hbad htwo hlen hl2
        go_wp2_with fail
        refine cR2.mono ?_
        rintro e w4 ⟨rfl, hb4⟩
        have hb2s : w.heap.size < w2.heap.size := by have := Hb2.out.size; simp at this; omega
        have hcr40 : w4.cell? ⟨w.heap.size, 0, none⟩ = some (.int .i32 0) := by rw [hb4.cell (p := ⟨w.heap.size, 0, none⟩) hb2s]; exact hcr0
        have hcr41 : w4.cell? ⟨w.heap.size, 1, none⟩ = some (.int .i32 0) := by rw [hb4.cell (p := ⟨w.heap.size, 1, none⟩) hb2s]; exact hcr1
        have hfr40 : w4.frozen? ⟨w.heap.size, 0, none⟩ = false := by rw [hb4.frozen (p := ⟨w.heap.size, 0, none⟩) hb2s]; exact hfr0
        have hfr41 : w4.frozen? ⟨w.heap.size, 1, none⟩ = false := by rw [hb4.frozen (p := ⟨w.heap.size, 1, none⟩) hb2s]; exact hfr1
        have Hb4 : Hid (Below w.heap.size w w4) := Lib.hid (Hw1.out.trans ((Hb2.out.mono (by simp)).trans (hb4.mono (by omega))))
        clear hb4 cR2 hcr0 hcr1 hfr0 hfr1
        by_cases hd0 : d.2 = 0
        · have HF := Lib.hid (Hbd.out hd0)
          have hdz : ((d.2 : Nat) : Int) = 0 := by omega
          go_wp2_with fail
          refine bodyPost_ret (v := .tuple #[.agg #[.int .i32 0, .int .i32 0], .int .i64 0]) ?_ rfl ⟨by rw [HF.out]; rfl, ?_⟩
          · rw [results_cell_tmp rfl]
            go_simp
          · exact (Hb4.out.setCell (p := ⟨w.heap.size, 0, none⟩) (Nat.le_refl _) _).setCell (p := ⟨w.heap.size, 1, none⟩) (Nat.le_refl _) _
        · have HF := Lib.hid (Htw.out hd0)
          have hdz : ¬ ((d.2 : Nat) : Int) = 0 := by omega
          go_wp2_with fail
          refine bodyPost_ret (v := .tuple #[.agg #[.int .i32 f.1, .int .i32 d.1], .int .i64 ((f.2 : Int) + 1 + d.2)]) ?_ rfl ⟨by rw [HF.out]; rfl, ?_⟩
          · rw [results_cell_tmp rfl]
            go_simp
          · exact (Hb4.out.setCell (p := ⟨w.heap.size, 0, none⟩) (Nat.le_refl _) _).setCell (p := ⟨w.heap.size, 1, none⟩) (Nat.le_refl _) _
  · rw [decide_eq_false h45, if_neg h45] at cC
    have HF := Lib.hid (Hno.out h45)
    clear h45
    go_wp2_with fail
    refine cC.mono ?_
    rintro e w3 ⟨t, rfl, ht, rfl⟩
    clear cC ht
    go_wp2_with fail
    refine bodyPost_ret (v := .tuple #[.agg #[.int .i32 f.1, .int .i32 f.1], .int .i64 f.2]) ?_ rfl ⟨by rw [HF.out], ?_⟩
    · rw [results_cell_tmp rfl]
      go_simp
    · exact ((Hw1.out.trans (Hb2.out.mono (by simp))).setCell (p := ⟨w.heap.size, 0, none⟩) (Nat.le_refl _) _).setCell (p := ⟨w.heap.size, 1, none⟩) (Nat.le_refl _) _
end GR
end Go.Proofs.YtechekdiadpmoaaDoor
