/- Layer 3: the contracts of counted and of the reader's calls. -/
import Derived.Test.YtiggdojppfblkaaGreatDoorArFn
namespace Go.Proofs.YtiggdojppfblkaaGreatDoor
open Go.RowKit Go.Lib
namespace CR
open CP

def Tri (a : Nat × Nat × Nat) (w : World) (r : Ending) (w' : World) : Prop := r = .returned (.tuple #[.int .i64 a.1, .int .i64 a.2.1, .int .i64 a.2.2]) ∧ w = w'
theorem cnt_err {l : List UInt8} {x wd e : Nat} {most least : Int} (h : rd 0 0 l = (x, wd, e)) (he : e ≠ 0) : cnt l most least = (0, 0, e) := by unfold cnt; rw [h, if_pos he]
theorem cnt_more {l : List UInt8} {x wd : Nat} {most least : Int} (h : rd 0 0 l = (x, wd, 0)) (hm : most < x) : cnt l most least = (0, 0, 32) := by unfold cnt; rw [h, if_neg (by simp), if_pos hm]
theorem cnt_short {l : List UInt8} {x wd : Nat} {most least : Int} (h : rd 0 0 l = (x, wd, 0)) (hm : ¬ most < x) (hq : ((l.length : Int) - wd) / max least 1 < x) : cnt l most least = (0, 0, 30) := by unfold cnt; rw [h, if_neg (by simp), if_neg hm, if_pos hq]
theorem cnt_ok {l : List UInt8} {x wd : Nat} {most least : Int} (h : rd 0 0 l = (x, wd, 0)) (hm : ¬ most < x) (hq : ¬ ((l.length : Int) - wd) / max least 1 < x) : cnt l most least = (x, wd, 0) := by unfold cnt; rw [h, if_neg (by simp), if_neg hm, if_neg hq]
theorem rd_fits {l : List UInt8} {x wd e : Nat} (h : rd 0 0 l = (x, wd, e)) : wd ≤ l.length ∧ x < 2 ^ 63 ∧ e ≤ 31 := by
  rcases rd_err l 0 0 with h0 | h0 | h0
  · rw [h] at h0
    simp only at h0
    subst h0
    obtain ⟨_, _, h1, h2⟩ := rd_one h
    exact ⟨h1, by have e : (128 : Nat) ^ 9 = 2 ^ 63 := by decide
                  omega, by omega⟩
  · rw [h] at h0
    simp only [Prod.mk.injEq] at h0
    omega
  · rw [h] at h0
    simp only [Prod.mk.injEq] at h0
    omega
set_option maxRecDepth 100000 in
set_option maxHeartbeats 1600000 in
theorem counted_any (bk : Nat) (s : ByteArray) (f most least : Int) (w : World) (h : RdAt bk s f w) (hs : s.size ≤ maxLen) :
    Calls Tryz.prog 103 #[ptr bk, .int .i64 most, .int .i64 least] w (Tri (cnt s.data.toList most least) w) := by
  have cN := number_any bk s f w h hs
  have cL := left_any bk s f w h hs
  obtain ⟨x, wd, er, hrd⟩ : ∃ x wd er, rd 0 0 s.data.toList = (x, wd, er) := ⟨_, _, _, rfl⟩
  obtain ⟨hw, hx, he⟩ := rd_fits hrd
  rw [← Lib.size_eq] at hw
  have HS := Lib.hid (Lib.size_eq s)
  rw [hrd] at cN
  have Hrd := Lib.hid hrd
  clear hrd h
  unfold maxLen at hs
  by_cases h0 : er = 0
  · subst h0
    by_cases hm : most < (x : Int)
    · have HF := Lib.hid (cnt_more (least := least) Hrd.out hm)
      go_enter Tryz.func103, Tryz.ntmps103
      go_wp2_with fail
      refine cN.mono ?_
      rintro e w1 ⟨rfl, rfl⟩
      go_wp2_with fail
      go_ret3
      exact ⟨by rw [HF.out]; rfl, rfl⟩
    · go_enter Tryz.func103, Tryz.ntmps103
      go_wp2_with fail
      refine cN.mono ?_
      rintro e w1 ⟨rfl, rfl⟩
      go_wp2_with fail
      refine cL.mono ?_
      rintro e w1 ⟨rfl, rfl⟩
      go_wp2_with fail
      all_goals
        go_ret3
        refine ⟨?_, rfl⟩
        have HX := HS.out
        have e0 : max least 1 = (if least < 1 then 1 else least) := by split <;> omega
        first
          | (have hq : ((s.data.toList.length : Int) - wd) / max least 1 < x := by
               first
                 | (rw [e0, ← HX]; omega)
                 | (rw [← HX]; omega)
             rw [cnt_short Hrd.out (by omega) hq]
             rfl)
          | (have hq : ¬ ((s.data.toList.length : Int) - wd) / max least 1 < x := by
               first
                 | (rw [e0, ← HX]; omega)
                 | (rw [← HX]; omega)
             rw [cnt_ok Hrd.out (by omega) hq]
             rfl)
  · have HF := Lib.hid (cnt_err (most := most) (least := least) Hrd.out h0)
    have hz : ¬ (er : Int) = 0 := by omega
    go_enter Tryz.func103, Tryz.ntmps103
    go_wp2_with fail
    refine cN.mono ?_
    rintro e w1 ⟨rfl, rfl⟩
    go_wp2_with fail
    go_ret3
    exact ⟨by rw [HF.out]; rfl, rfl⟩

/- New, Left, End -/
theorem new_any (s : ByteArray) (w : World) :
    Calls Tryz.prog 74 #[.string s] w fun r w' => r = .returned (ptr w.heap.size) ∧ RdAt w.heap.size s 0 w' ∧ Below w.heap.size w w' := by
  go_enter Tryz.func74, Tryz.ntmps74
  go_wp2
  go_ret
  refine ⟨rfl, ⟨World.cell?_alloc_at _ _ _ _ rfl, World.cell?_alloc_at _ _ _ _ rfl, World.frozen?_alloc_at _ _ _ _ rfl, World.frozen?_alloc_at _ _ _ _ rfl, by simp⟩, (Below.refl _ _).alloc (Nat.le_refl _) _⟩
theorem end_any (bk : Nat) (s : ByteArray) (f : Int) (w : World) (h : RdAt bk s f w) (hs : s.size ≤ maxLen) :
    Calls Tryz.prog 78 #[ptr bk] w fun e w' => e = .returned (.int .i64 (if f ≠ 0 then f else if s.data.toList = [] then 0 else 32)) ∧ w = w' := by
  have cL := left_any bk s f w h hs
  have HS := Lib.hid (Lib.size_eq s)
  obtain ⟨c0, c1, f0, f1, lt⟩ := h
  unfold maxLen at hs
  obtain ⟨E, hE⟩ : ∃ E, (if f ≠ 0 then f else if s.data.toList = [] then 0 else 32) = E := ⟨_, rfl⟩
  rw [hE]
  have HE := Lib.hid hE
  clear hE
  by_cases hf : f = 0
  · subst hf
    by_cases h0 : s.size = 0
    · have hz : ¬ (0 : Int) < s.size := by omega
      have HF := Lib.hid (show s.data.toList = [] from List.eq_nil_of_length_eq_zero (by rw [← HS.out]; exact h0))
      clear h0
      go_enter Tryz.func78, Tryz.ntmps78
      go_wp2_with fail
      refine cL.mono ?_
      rintro e w1 ⟨rfl, rfl⟩
      go_wp2
      go_ret
      exact ⟨by rw [← HE.out, if_neg (by simp), if_pos HF.out]; rfl, rfl⟩
    · have hz : (0 : Int) < s.size := by omega
      have HF := Lib.hid (show s.data.toList ≠ [] from fun e => h0 (by rw [HS.out, e]; rfl))
      clear h0
      go_enter Tryz.func78, Tryz.ntmps78
      go_wp2_with fail
      refine cL.mono ?_
      rintro e w1 ⟨rfl, rfl⟩
      go_wp2
      go_ret
      exact ⟨by rw [← HE.out, if_neg (by simp), if_neg HF.out]; rfl, rfl⟩
  · have hfb : (f != 0) = true := by simpa using hf
    go_enter Tryz.func78, Tryz.ntmps78
    go_wp2
    go_ret
    exact ⟨by rw [← HE.out, if_pos hf]; rfl, rfl⟩

/- Num, Count, Text, Flag -/
def RdPost (bk : Nat) (v : Value) (l : List UInt8) (f : Int) (w : World) (r : Ending) (w' : World) : Prop :=
  r = .returned v ∧ ∃ s : ByteArray, s.data.toList = l ∧ RdAt bk s f w' ∧ FP.Out (· = bk) w w'
theorem drop_data (s : ByteArray) (k : Nat) : (s.extract k s.size).data.toList = s.data.toList.drop k := by
  rw [Lib.extract_data, List.take_of_length_le]
  rw [List.length_drop, Lib.size_eq]
  omega
theorem take_data (s : ByteArray) (k : Nat) : (s.extract 0 k).data.toList = s.data.toList.take k := by
  rw [Lib.extract_data]
  simp
theorem num_stop (bk : Nat) (s : ByteArray) (f : Int) (w : World) (h : RdAt bk s f w) (hf : f ≠ 0) :
    Calls Tryz.prog 76 #[ptr bk] w (RdPost bk (.int .i64 0) s.data.toList f w) := by
  have cS := stopped_yes bk s f w h hf
  have H := Lib.hid h
  clear h
  go_enter Tryz.func76, Tryz.ntmps76
  go_wp2_with fail
  refine cS.mono ?_
  rintro e w1 ⟨rfl, rfl⟩
  go_wp2
  go_ret
  exact ⟨rfl, s, rfl, H.out, FP.Out.refl _ _⟩
theorem num_bad (bk : Nat) (s : ByteArray) (w : World) (e0 : Nat) (h : RdAt bk s 0 w) (hs : s.size ≤ maxLen) (hrd : rd 0 0 s.data.toList = (0, 0, e0)) (he : e0 ≠ 0) :
    Calls Tryz.prog 76 #[ptr bk] w (RdPost bk (.int .i64 0) s.data.toList e0 w) := by
  have cS := stopped_no bk s w h
  have cN := number_any bk s 0 w h hs
  have cF := fail_any bk s 0 e0 w h
  rw [hrd] at cN
  have hz : ((e0 : Int) != 0) = true := by simp; omega
  clear h hrd
  go_enter Tryz.func76, Tryz.ntmps76
  go_wp2_with fail
  refine cS.mono ?_
  rintro e w1 ⟨rfl, rfl⟩
  go_wp2_with fail
  refine cN.mono ?_
  rintro e w1 ⟨rfl, rfl⟩
  go_wp2_with fail
  refine cF.mono ?_
  rintro e w1 ⟨rfl, hr, hb⟩
  have HR := Lib.hid hr
  have HB := Lib.hid hb
  clear hr hb
  go_wp2
  go_ret
  exact ⟨rfl, s, rfl, HR.out, HB.out⟩
theorem num_ok (bk : Nat) (s : ByteArray) (w : World) (x wd : Nat) (h : RdAt bk s 0 w) (hs : s.size ≤ maxLen) (hrd : rd 0 0 s.data.toList = (x, wd, 0)) :
    Calls Tryz.prog 76 #[ptr bk] w (RdPost bk (.int .i64 x) (s.data.toList.drop wd) 0 w) := by
  have cS := stopped_no bk s w h
  have cN := number_any bk s 0 w h hs
  have cT := take_any bk wd s 0 w h hs (by rw [Lib.size_eq]; exact (rd_fits hrd).1)
  rw [hrd] at cN
  clear h hrd
  go_enter Tryz.func76, Tryz.ntmps76
  go_wp2_with fail
  refine cS.mono ?_
  rintro e w1 ⟨rfl, rfl⟩
  go_wp2_with fail
  refine cN.mono ?_
  rintro e w1 ⟨rfl, rfl⟩
  go_wp2_with fail
  refine cT.mono ?_
  rintro e w1 ⟨rfl, hr, hb⟩
  have HR := Lib.hid hr
  have HB := Lib.hid hb
  clear hr hb
  go_wp2
  go_ret
  exact ⟨rfl, _, drop_data s wd, HR.out, HB.out⟩
theorem count_stop (bk : Nat) (s : ByteArray) (f most least : Int) (w : World) (h : RdAt bk s f w) (hf : f ≠ 0) :
    Calls Tryz.prog 77 #[ptr bk, .int .i64 most, .int .i64 least] w (RdPost bk (.int .i64 0) s.data.toList f w) := by
  have cS := stopped_yes bk s f w h hf
  have H := Lib.hid h
  clear h
  go_enter Tryz.func77, Tryz.ntmps77
  go_wp2_with fail
  refine cS.mono ?_
  rintro e w1 ⟨rfl, rfl⟩
  go_wp2
  go_ret
  exact ⟨rfl, s, rfl, H.out, FP.Out.refl _ _⟩
theorem count_bad (bk : Nat) (s : ByteArray) (most least : Int) (w : World) (e0 : Nat) (h : RdAt bk s 0 w) (hs : s.size ≤ maxLen) (hrd : cnt s.data.toList most least = (0, 0, e0)) (he : e0 ≠ 0) :
    Calls Tryz.prog 77 #[ptr bk, .int .i64 most, .int .i64 least] w (RdPost bk (.int .i64 0) s.data.toList e0 w) := by
  have cS := stopped_no bk s w h
  have cN := counted_any bk s 0 most least w h hs
  have cF := fail_any bk s 0 e0 w h
  rw [hrd] at cN
  have hz : ((e0 : Int) != 0) = true := by simp; omega
  clear h hrd
  go_enter Tryz.func77, Tryz.ntmps77
  go_wp2_with fail
  refine cS.mono ?_
  rintro e w1 ⟨rfl, rfl⟩
  go_wp2_with fail
  refine cN.mono ?_
  rintro e w1 ⟨rfl, rfl⟩
  go_wp2_with fail
  refine cF.mono ?_
  rintro e w1 ⟨rfl, hr, hb⟩
  have HR := Lib.hid hr
  have HB := Lib.hid hb
  clear hr hb
  go_wp2
  go_ret
  exact ⟨rfl, s, rfl, HR.out, HB.out⟩
theorem cnt_is {l : List UInt8} {most least : Int} {x wd : Nat} (h : cnt l most least = (x, wd, 0)) : rd 0 0 l = (x, wd, 0) ∧ (x : Int) ≤ most ∧ (x : Int) ≤ ((l.length : Int) - wd) / max least 1 := by
  rcases cnt_cases l most least with ⟨h1, h2, h3, h4⟩ | ⟨e, h1, h2⟩
  · rw [h] at h1
    rw [← h1] at h3 h4
    exact ⟨h1.symm, h3, h4⟩
  · rw [h] at h1
    simp only [Prod.mk.injEq] at h1
    omega
theorem count_ok (bk : Nat) (s : ByteArray) (most least : Int) (w : World) (x wd : Nat) (h : RdAt bk s 0 w) (hs : s.size ≤ maxLen) (hrd : cnt s.data.toList most least = (x, wd, 0)) :
    Calls Tryz.prog 77 #[ptr bk, .int .i64 most, .int .i64 least] w (RdPost bk (.int .i64 x) (s.data.toList.drop wd) 0 w) := by
  have cS := stopped_no bk s w h
  have cN := counted_any bk s 0 most least w h hs
  have cT := take_any bk wd s 0 w h hs (by rw [Lib.size_eq]; exact (rd_fits (cnt_is hrd).1).1)
  rw [hrd] at cN
  clear h hrd
  go_enter Tryz.func77, Tryz.ntmps77
  go_wp2_with fail
  refine cS.mono ?_
  rintro e w1 ⟨rfl, rfl⟩
  go_wp2_with fail
  refine cN.mono ?_
  rintro e w1 ⟨rfl, rfl⟩
  go_wp2_with fail
  refine cT.mono ?_
  rintro e w1 ⟨rfl, hr, hb⟩
  have HR := Lib.hid hr
  have HB := Lib.hid hb
  clear hr hb
  go_wp2
  go_ret
  exact ⟨rfl, _, drop_data s wd, HR.out, HB.out⟩
def TxPost (bk : Nat) (t l : List UInt8) (f : Int) (w : World) (r : Ending) (w' : World) : Prop := ∃ u : ByteArray, u.data.toList = t ∧ RdPost bk (.string u) l f w r w'
theorem text_stop (bk : Nat) (s : ByteArray) (f most : Int) (w : World) (h : RdAt bk s f w) (hf : f ≠ 0) :
    Calls Tryz.prog 75 #[ptr bk, .int .i64 most] w (TxPost bk [] s.data.toList f w) := by
  have cS := stopped_yes bk s f w h hf
  have H := Lib.hid h
  clear h
  go_enter Tryz.func75, Tryz.ntmps75
  go_wp2_with fail
  refine cS.mono ?_
  rintro e w1 ⟨rfl, rfl⟩
  go_wp2
  go_ret
  exact ⟨_, rfl, rfl, s, rfl, H.out, FP.Out.refl _ _⟩
theorem text_bad (bk : Nat) (s : ByteArray) (most : Int) (w : World) (e0 : Nat) (h : RdAt bk s 0 w) (hs : s.size ≤ maxLen) (hrd : cnt s.data.toList most 1 = (0, 0, e0)) (he : e0 ≠ 0) :
    Calls Tryz.prog 75 #[ptr bk, .int .i64 most] w (TxPost bk [] s.data.toList e0 w) := by
  have cS := stopped_no bk s w h
  have cN := counted_any bk s 0 most 1 w h hs
  have cF := fail_any bk s 0 e0 w h
  rw [hrd] at cN
  have hz : ((e0 : Int) != 0) = true := by simp; omega
  clear h hrd
  go_enter Tryz.func75, Tryz.ntmps75
  go_wp2_with fail
  refine cS.mono ?_
  rintro e w1 ⟨rfl, rfl⟩
  go_wp2_with fail
  refine cN.mono ?_
  rintro e w1 ⟨rfl, rfl⟩
  go_wp2_with fail
  refine cF.mono ?_
  rintro e w1 ⟨rfl, hr, hb⟩
  have HR := Lib.hid hr
  have HB := Lib.hid hb
  clear hr hb
  go_wp2
  go_ret
  exact ⟨_, rfl, rfl, s, rfl, HR.out, HB.out⟩
theorem text_room {l : List UInt8} {most : Int} {x wd : Nat} (h : cnt l most 1 = (x, wd, 0)) : wd + x ≤ l.length := by
  obtain ⟨h1, _, h3⟩ := cnt_is h
  have hw := (rd_fits h1).1
  rw [show max (1 : Int) 1 = 1 from rfl, Int.ediv_one] at h3
  omega
theorem text_ok (bk : Nat) (s : ByteArray) (most : Int) (w : World) (x wd : Nat) (h : RdAt bk s 0 w) (hs : s.size ≤ maxLen) (hrd : cnt s.data.toList most 1 = (x, wd, 0)) :
    Calls Tryz.prog 75 #[ptr bk, .int .i64 most] w (TxPost bk ((s.data.toList.drop wd).take x) (s.data.toList.drop (wd + x)) 0 w) := by
  have hroom := text_room hrd
  rw [← Lib.size_eq] at hroom
  have cS := stopped_no bk s w h
  have cN := counted_any bk s 0 most 1 w h hs
  have cT := take_any bk wd s 0 w h hs (by omega)
  have hsz : (s.extract wd s.size).size = s.size - wd := by rw [ByteArray.size_extract]; omega
  have cT2 := fun W (h : RdAt bk (s.extract wd s.size) 0 W) => take_any bk x (s.extract wd s.size) 0 W h (by omega) (by omega)
  rw [hrd] at cN
  clear h hrd hsz
  go_enter Tryz.func75, Tryz.ntmps75
  go_wp2_with fail
  refine cS.mono ?_
  rintro e w1 ⟨rfl, rfl⟩
  go_wp2_with fail
  refine cN.mono ?_
  rintro e w1 ⟨rfl, rfl⟩
  go_wp2_with fail
  refine cT.mono ?_
  rintro e w1 ⟨rfl, hr, hb⟩
  have HR := Lib.hid hr
  have HB := Lib.hid hb
  clear hr hb
  go_wp2_with fail
  refine (cT2 _ HR.out).mono ?_
  rintro e w2 ⟨rfl, hr, hb⟩
  have HR2 := Lib.hid hr
  have HB2 := Lib.hid (HB.out.trans hb)
  clear hr hb
  go_wp2
  go_ret
  exact ⟨_, by rw [take_data, drop_data], rfl, _, by rw [drop_data, drop_data, List.drop_drop], HR2.out, HB2.out⟩
end CR
end Go.Proofs.YtiggdojppfblkaaGreatDoor
