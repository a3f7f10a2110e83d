
/- Layer 3: the contracts of counted and of the reader's calls. -/
import Derived.Test.YtdkfoakmjeealaaQArFn
set_option linter.all false
set_option maxRecDepth 100000
set_option maxHeartbeats 25600000
namespace Go.Proofs.Ytdkfoakmjeealaa
open Go.RowKit Go.Lib
namespace CR
open CP

def Tri (a : Nat × Nat × Nat) (w : World) (r : Ending) (w' : World) : Prop := r = .returned (.tuple #[.int .i64 a.1, .int .i64 a.2.1, .int .i64 a.2.2]) ∧ w = w'
theorem cnt_err {l : List UInt8} {x wd e : Nat} {most least : Int} (h : rd 0 0 l = (x, wd, e)) (he : e ≠ 0) : cnt l most least = (0, 0, e) := by unfold cnt; rw [h, if_pos he]
theorem cnt_more {l : List UInt8} {x wd : Nat} {most least : Int} (h : rd 0 0 l = (x, wd, 0)) (hm : most < x) : cnt l most least = (0, 0, 32) := by unfold cnt; rw [h, if_neg (by simp), if_pos hm]
theorem cnt_short {l : List UInt8} {x wd : Nat} {most least : Int} (h : rd 0 0 l = (x, wd, 0)) (hm : ¬ most < x) (hq : ((l.length : Int) - wd) / max least 1 < x) : cnt l most least = (0, 0, 30) := by unfold cnt; rw [h, if_neg (by simp), if_neg hm, if_pos hq]
theorem cnt_ok {l : List UInt8} {x wd : Nat} {most least : Int} (h : rd 0 0 l = (x, wd, 0)) (hm : ¬ most < x) (hq : ¬ ((l.length : Int) - wd) / max least 1 < x) : cnt l most least = (x, wd, 0) := by unfold cnt; rw [h, if_neg (by simp), if_neg hm, if_neg hq]
theorem rd_fits {l : List UInt8} {x wd e : Nat} (h : rd 0 0 l = (x, wd, e)) : wd ≤ l.length ∧ x < 2 ^ 63 ∧ e ≤ 31 := by
  rcases rd_err l 0 0 with h0 | h0 | h0
  · rw [h] at h0
    simp only at h0
    subst h0
    obtain ⟨_, _, h1, h2⟩ := rd_one h
    exact ⟨h1, by have e : (128 : Nat) ^ 9 = 2 ^ 63 := by decide
                  omega, by omega⟩
  · rw [h] at h0
    simp only [Prod.mk.injEq] at h0
    omega
  · rw [h] at h0
    simp only [Prod.mk.injEq] at h0
    omega
set_option maxRecDepth 100000 in
set_option maxHeartbeats 1600000 in
theorem counted_any (bk : Nat) (s : ByteArray) (f most least : Int) (w : World) (h : RdAt bk s f w) (hs : s.size ≤ maxLen) :
    Calls Try.prog 60 #[ptr bk, .int .i64 most, .int .i64 least] w (Tri (cnt s.data.toList most least) w) := by
  have cN := number_any bk s f w h hs
  have cL := left_any bk s f w h hs
  obtain ⟨x, wd, er, hrd⟩ : ∃ x wd er, rd 0 0 s.data.toList = (x, wd, er) := ⟨_, _, _, rfl⟩
  obtain ⟨hw, hx, he⟩ := rd_fits hrd
  rw [← Lib.size_eq] at hw
  have HS := Lib.hid (Lib.size_eq s)
  rw [hrd] at cN
  have Hrd := Lib.hid hrd
  clear hrd h
  unfold maxLen at hs
  by_cases h0 : er = 0
  · subst h0
    by_cases hm : most < (x : Int)
    · have HF := Lib.hid (cnt_more (least := least) Hrd.out hm)
      go_enter Try.func60, Try.ntmps60
      go_wp2_with fail
      refine cN.mono ?_
      rintro e w1 ⟨rfl, rfl⟩
      go_wp2_with fail
      go_ret3
      exact ⟨by rw [HF.out]; rfl, rfl⟩
    · go_enter Try.func60, Try.ntmps60
      go_wp2_with fail
      refine cN.mono ?_
      rintro e w1 ⟨rfl, rfl⟩
      go_wp2_with fail
      refine cL.mono ?_
      rintro e w1 ⟨rfl, rfl⟩
      go_wp2_with fail
      all_goals
        go_ret3
        refine ⟨?_, rfl⟩
        have HX := HS.out
        have e0 : max least 1 = (if least < 1 then 1 else least) := by split <;> omega
        first
          | (have hq : ((s.data.toList.length : Int) - wd) / max least 1 < x := by
               first
                 | (rw [e0, ← HX]; omega)
                 | (rw [← HX]; omega)
             rw [cnt_short Hrd.out (by omega) hq]
             rfl)
          | (have hq : ¬ ((s.data.toList.length : Int) - wd) / max least 1 < x := by
               first
                 | (rw [e0, ← HX]; omega)
                 | (rw [← HX]; omega)
             rw [cnt_ok Hrd.out (by omega) hq]
             rfl)
  · have HF := Lib.hid (cnt_err (most := most) (least := least) Hrd.out h0)
    have hz : ¬ (er : Int) = 0 := by omega
    go_enter Try.func60, Try.ntmps60
    go_wp2_with fail
    refine cN.mono ?_
    rintro e w1 ⟨rfl, rfl⟩
    go_wp2_with fail
    go_ret3
    exact ⟨by rw [HF.out]; rfl, rfl⟩

/- New, Left, End -/
theorem new_any (s : ByteArray) (w : World) :
    Calls Try.prog 42 #[.string s] w fun r w' => r = .returned (ptr w.heap.size) ∧ RdAt w.heap.size s 0 w' ∧ Below w.heap.size w w' := by
  go_enter Try.func42, Try.ntmps42
  go_wp2
  go_ret
  refine ⟨rfl, ⟨World.cell?_alloc_at _ _ _ _ rfl, World.cell?_alloc_at _ _ _ _ rfl, World.frozen?_alloc_at _ _ _ _ rfl, World.frozen?_alloc_at _ _ _ _ rfl, by simp⟩, (Below.refl _ _).alloc (Nat.le_refl _) _⟩
theorem end_any (bk : Nat) (s : ByteArray) (f : Int) (w : World) (h : RdAt bk s f w) (hs : s.size ≤ maxLen) :
    Calls Try.prog 46 #[ptr bk] w fun e w' => e = .returned (.int .i64 (if f ≠ 0 then f else if s.data.toList = [] then 0 else 32)) ∧ w = w' := by
  have cL := left_any bk s f w h hs
  have HS := Lib.hid (Lib.size_eq s)
  obtain ⟨c0, c1, f0, f1, lt⟩ := h
  unfold maxLen at hs
  obtain ⟨E, hE⟩ : ∃ E, (if f ≠ 0 then f else if s.data.toList = [] then 0 else 32) = E := ⟨_, rfl⟩
  rw [hE]
  have HE := Lib.hid hE
  clear hE
  by_cases hf : f = 0
  · subst hf
    by_cases h0 : s.size = 0
    · have hz : ¬ (0 : Int) < s.size := by omega
      have HF := Lib.hid (show s.data.toList = [] from List.eq_nil_of_length_eq_zero (by rw [← HS.out]; exact h0))
      clear h0
      go_enter Try.func46, Try.ntmps46
      go_wp2_with fail
      refine cL.mono ?_
      rintro e w1 ⟨rfl, rfl⟩
      go_wp2
      go_ret
      exact ⟨by rw [← HE.out, if_neg (by simp), if_pos HF.out]; rfl, rfl⟩
    · have hz : (0 : Int) < s.size := by omega
      have HF := Lib.hid (show s.data.toList ≠ [] from fun e => h0 (by rw [HS.out, e]; rfl))
      clear h0
      go_enter Try.func46, Try.ntmps46
      go_wp2_with fail
      refine cL.mono ?_
      rintro e w1 ⟨rfl, rfl⟩
      go_wp2
      go_ret
      exact ⟨by rw [← HE.out, if_neg (by simp), if_neg HF.out]; rfl, rfl⟩
  · have hfb : (f != 0) = true := by simpa using hf
    go_enter Try.func46, Try.ntmps46
    go_wp2
    go_ret
    exact ⟨by rw [← HE.out, if_pos hf]; rfl, rfl⟩

/- Num, Count, Text, Flag -/
def RdPost (bk : Nat) (v : Value) (l : List UInt8) (f : Int) (w : World) (r : Ending) (w' : World) : Prop :=
  r = .returned v ∧ ∃ s : ByteArray, s.data.toList = l ∧ RdAt bk s f w' ∧ FP.Out (· = bk) w w'
theorem drop_data (s : ByteArray) (k : Nat) : (s.extract k s.size).data.toList = s.data.toList.drop k := by
  rw [Lib.extract_data, List.take_of_length_le]
  rw [List.length_drop, Lib.size_eq]
  omega
theorem take_data (s : ByteArray) (k : Nat) : (s.extract 0 k).data.toList = s.data.toList.take k := by
  rw [Lib.extract_data]
  simp
theorem num_stop (bk : Nat) (s : ByteArray) (f : Int) (w : World) (h : RdAt bk s f w) (hf : f ≠ 0) :
    Calls Try.prog 43 #[ptr bk] w (RdPost bk (.int .i64 0) s.data.toList f w) := by
  have cS := stopped_yes bk s f w h hf
  have H := Lib.hid h
  clear h
  go_enter Try.func43, Try.ntmps43
  go_wp2_with fail
  refine cS.mono ?_
  rintro e w1 ⟨rfl, rfl⟩
  go_wp2
  go_ret
  exact ⟨rfl, s, rfl, H.out, FP.Out.refl _ _⟩
theorem num_bad (bk : Nat) (s : ByteArray) (w : World) (e0 : Nat) (h : RdAt bk s 0 w) (hs : s.size ≤ maxLen) (hrd : rd 0 0 s.data.toList = (0, 0, e0)) (he : e0 ≠ 0) :
    Calls Try.prog 43 #[ptr bk] w (RdPost bk (.int .i64 0) s.data.toList e0 w) := by
  have cS := stopped_no bk s w h
  have cN := number_any bk s 0 w h hs
  have cF := fail_any bk s 0 e0 w h
  rw [hrd] at cN
  have hz : ((e0 : Int) != 0) = true := by simp; omega
  clear h hrd
  go_enter Try.func43, Try.ntmps43
  go_wp2_with fail
  refine cS.mono ?_
  rintro e w1 ⟨rfl, rfl⟩
  go_wp2_with fail
  refine cN.mono ?_
  rintro e w1 ⟨rfl, rfl⟩
  go_wp2_with fail
  refine cF.mono ?_
  rintro e w1 ⟨rfl, hr, hb⟩
  have HR := Lib.hid hr
  have HB := Lib.hid hb
  clear hr hb
  go_wp2
  go_ret
  exact ⟨rfl, s, rfl, HR.out, HB.out⟩
theorem num_ok (bk : Nat) (s : ByteArray) (w : World) (x wd : Nat) (h : RdAt bk s 0 w) (hs : s.size ≤ maxLen) (hrd : rd 0 0 s.data.toList = (x, wd, 0)) :
    Calls Try.prog 43 #[ptr bk] w (RdPost bk (.int .i64 x) (s.data.toList.drop wd) 0 w) := by
  have cS := stopped_no bk s w h
  have cN := number_any bk s 0 w h hs
  have cT := take_any bk wd s 0 w h hs (by rw [Lib.size_eq]; exact (rd_fits hrd).1)
  rw [hrd] at cN
  clear h hrd
  go_enter Try.func43, Try.ntmps43
  go_wp2_with fail
  refine cS.mono ?_
  rintro e w1 ⟨rfl, rfl⟩
  go_wp2_with fail
  refine cN.mono ?_
  rintro e w1 ⟨rfl, rfl⟩
  go_wp2_with fail
  refine cT.mono ?_
  rintro e w1 ⟨rfl, hr, hb⟩
  have HR := Lib.hid hr
  have HB := Lib.hid hb
  clear hr hb
  go_wp2
  go_ret
  exact ⟨rfl, _, drop_data s wd, HR.out, HB.out⟩
theorem cnt_is {l : List UInt8} {most least : Int} {x wd : Nat} (h : cnt l most least = (x, wd, 0)) : rd 0 0 l = (x, wd, 0) ∧ (x : Int) ≤ most ∧ (x : Int) ≤ ((l.length : Int) - wd) / max least 1 := by
  rcases cnt_cases l most least with ⟨h1, h2, h3, h4⟩ | ⟨e, h1, h2⟩
  · rw [h] at h1
    rw [← h1] at h3 h4
    exact ⟨h1.symm, h3, h4⟩
  · rw [h] at h1
    simp only [Prod.mk.injEq] at h1
    omega
def TxPost (bk : Nat) (t l : List UInt8) (f : Int) (w : World) (r : Ending) (w' : World) : Prop := ∃ u : ByteArray, u.data.toList = t ∧ RdPost bk (.string u) l f w r w'
theorem text_stop (bk : Nat) (s : ByteArray) (f most : Int) (w : World) (h : RdAt bk s f w) (hf : f ≠ 0) :
    Calls Try.prog 44 #[ptr bk, .int .i64 most] w (TxPost bk [] s.data.toList f w) := by
  have cS := stopped_yes bk s f w h hf
  have H := Lib.hid h
  clear h
  go_enter Try.func44, Try.ntmps44
  go_wp2_with fail
  refine cS.mono ?_
  rintro e w1 ⟨rfl, rfl⟩
  go_wp2
  go_ret
  exact ⟨_, rfl, rfl, s, rfl, H.out, FP.Out.refl _ _⟩
theorem text_bad (bk : Nat) (s : ByteArray) (most : Int) (w : World) (e0 : Nat) (h : RdAt bk s 0 w) (hs : s.size ≤ maxLen) (hrd : cnt s.data.toList most 1 = (0, 0, e0)) (he : e0 ≠ 0) :
    Calls Try.prog 44 #[ptr bk, .int .i64 most] w (TxPost bk [] s.data.toList e0 w) := by
  have cS := stopped_no bk s w h
  have cN := counted_any bk s 0 most 1 w h hs
  have cF := fail_any bk s 0 e0 w h
  rw [hrd] at cN
  have hz : ((e0 : Int) != 0) = true := by simp; omega
  clear h hrd
  go_enter Try.func44, Try.ntmps44
  go_wp2_with fail
  refine cS.mono ?_
  rintro e w1 ⟨rfl, rfl⟩
  go_wp2_with fail
  refine cN.mono ?_
  rintro e w1 ⟨rfl, rfl⟩
  go_wp2_with fail
  refine cF.mono ?_
  rintro e w1 ⟨rfl, hr, hb⟩
  have HR := Lib.hid hr
  have HB := Lib.hid hb
  clear hr hb
  go_wp2
  go_ret
  exact ⟨_, rfl, rfl, s, rfl, HR.out, HB.out⟩
theorem text_room {l : List UInt8} {most : Int} {x wd : Nat} (h : cnt l most 1 = (x, wd, 0)) : wd + x ≤ l.length := by
  obtain ⟨h1, _, h3⟩ := cnt_is h
  have hw := (rd_fits h1).1
  rw [show max (1 : Int) 1 = 1 from rfl, Int.ediv_one] at h3
  omega
theorem text_ok (bk : Nat) (s : ByteArray) (most : Int) (w : World) (x wd : Nat) (h : RdAt bk s 0 w) (hs : s.size ≤ maxLen) (hrd : cnt s.data.toList most 1 = (x, wd, 0)) :
    Calls Try.prog 44 #[ptr bk, .int .i64 most] w (TxPost bk ((s.data.toList.drop wd).take x) (s.data.toList.drop (wd + x)) 0 w) := by
  have hroom := text_room hrd
  rw [← Lib.size_eq] at hroom
  have cS := stopped_no bk s w h
  have cN := counted_any bk s 0 most 1 w h hs
  have cT := take_any bk wd s 0 w h hs (by omega)
  have hsz : (s.extract wd s.size).size = s.size - wd := by rw [ByteArray.size_extract]; omega
  have cT2 := fun W (h : RdAt bk (s.extract wd s.size) 0 W) => take_any bk x (s.extract wd s.size) 0 W h (by omega) (by omega)
  rw [hrd] at cN
  clear h hrd hsz
  go_enter Try.func44, Try.ntmps44
  go_wp2_with fail
  refine cS.mono ?_
  rintro e w1 ⟨rfl, rfl⟩
  go_wp2_with fail
  refine cN.mono ?_
  rintro e w1 ⟨rfl, rfl⟩
  go_wp2_with fail
  refine cT.mono ?_
  rintro e w1 ⟨rfl, hr, hb⟩
  have HR := Lib.hid hr
  have HB := Lib.hid hb
  clear hr hb
  go_wp2_with fail
  refine (cT2 _ HR.out).mono ?_
  rintro e w2 ⟨rfl, hr, hb⟩
  have HR2 := Lib.hid hr
  have HB2 := Lib.hid (HB.out.trans hb)
  clear hr hb
  go_wp2
  go_ret
  exact ⟨_, by rw [take_data, drop_data], rfl, _, by rw [drop_data, drop_data, List.drop_drop], HR2.out, HB2.out⟩
theorem flag_stop (bk : Nat) (s : ByteArray) (f : Int) (w : World) (h : RdAt bk s f w) (hf : f ≠ 0) :
    Calls Try.prog 45 #[ptr bk] w (RdPost bk (.bool false) s.data.toList f w) := by
  have cS := stopped_yes bk s f w h hf
  have H := Lib.hid h
  clear h
  go_enter Try.func45, Try.ntmps45
  go_wp2_with fail
  refine cS.mono ?_
  rintro e w1 ⟨rfl, rfl⟩
  go_wp2
  go_ret
  exact ⟨rfl, s, rfl, H.out, FP.Out.refl _ _⟩
theorem flag_none (bk : Nat) (s : ByteArray) (w : World) (h : RdAt bk s 0 w) (hs : s.data.toList = []) :
    Calls Try.prog 45 #[ptr bk] w (RdPost bk (.bool false) s.data.toList 30 w) := by
  have hz : s.size = 0 := by rw [Lib.size_eq, hs]; rfl
  have cS := stopped_no bk s w h
  have cL := left_any bk s 0 w h (by unfold maxLen; omega)
  have cF := fail_any bk s 0 30 w h
  rw [hz] at cL
  clear h hs hz
  go_enter Try.func45, Try.ntmps45
  go_wp2_with fail
  refine cS.mono ?_
  rintro e w1 ⟨rfl, rfl⟩
  go_wp2_with fail
  refine cL.mono ?_
  rintro e w1 ⟨rfl, rfl⟩
  go_wp2_with fail
  refine cF.mono ?_
  rintro e w1 ⟨rfl, hr, hb⟩
  have HR := Lib.hid hr
  have HB := Lib.hid hb
  clear hr hb
  go_wp2
  go_ret
  exact ⟨rfl, s, rfl, HR.out, HB.out⟩
theorem head_of {s : ByteArray} {b : UInt8} {r : List UInt8} (h : s.data.toList = b :: r) : ∃ hp : 0 < s.size, s[0]'hp = b := by
  have hp : 0 < s.size := by rw [Lib.size_eq, h]; simp
  refine ⟨hp, ?_⟩
  have := Lib.data_getElem? s 0 hp
  rw [h] at this
  simp at this
  exact this.symm
theorem flag_big (bk : Nat) (s : ByteArray) (b : UInt8) (r : List UInt8) (w : World) (h : RdAt bk s 0 w) (hs : s.size ≤ maxLen) (hl : s.data.toList = b :: r) (hb : 1 < b.toNat) :
    Calls Try.prog 45 #[ptr bk] w (RdPost bk (.bool false) s.data.toList 31 w) := by
  obtain ⟨hp, hx⟩ := head_of hl
  have cS := stopped_no bk s w h
  have cL := left_any bk s 0 w h hs
  have cF := fail_any bk s 0 31 w h
  obtain ⟨c0, c1, f0, f1, lt⟩ := h
  have hz : ¬ (s.size : Int) = 0 := by omega
  have hpz : (0 : Int) < s.size := by omega
  have hbz : (1 : Int) < ((s[0].toNat : Nat) : Int) := by rw [hx]; omega
  unfold maxLen at hs
  clear hl hb hx
  go_enter Try.func45, Try.ntmps45
  go_wp2_with fail
  refine cS.mono ?_
  rintro e w1 ⟨rfl, rfl⟩
  go_wp2_with fail
  refine cL.mono ?_
  rintro e w1 ⟨rfl, rfl⟩
  go_wp2_with fail
  refine cF.mono ?_
  rintro e w1 ⟨rfl, hr, hb⟩
  have HR := Lib.hid hr
  have HB := Lib.hid hb
  clear hr hb
  go_wp2
  go_ret
  exact ⟨rfl, s, rfl, HR.out, HB.out⟩
theorem wflag_any (b : Bool) (w : World) :
    Calls Try.prog 41 #[.bool b] w fun r w' => r = .returned (.string ⟨(flagS b).toArray⟩) ∧ w = w' := by
  cases b
  all_goals
    go_enter Try.func41, Try.ntmps41
    go_wp2
    go_ret
    exact ⟨rfl, rfl⟩
theorem flag_ok (bk : Nat) (s : ByteArray) (b : Bool) (r : List UInt8) (w : World) (h : RdAt bk s 0 w) (hs : s.size ≤ maxLen) (hl : s.data.toList = flagS b ++ r) :
    Calls Try.prog 45 #[ptr bk] w (RdPost bk (.bool b) r 0 w) := by
  obtain ⟨x, hl2, hx1⟩ : ∃ x : UInt8, s.data.toList = x :: r ∧ x.toNat ≤ 1 := by
    cases b
    · exact ⟨0, hl, by decide⟩
    · exact ⟨1, hl, by decide⟩
  obtain ⟨hp, hx⟩ := head_of hl2
  have hz : ¬ (s.size : Int) = 0 := by omega
  have cS := stopped_no bk s w h
  have cL := left_any bk s 0 w h hs
  have cT := take_any bk 1 s 0 w h hs (by omega)
  have cW := wflag_any true
  obtain ⟨c0, c1, f0, f1, lt⟩ := h
  have hpz : (0 : Int) < s.size := by omega
  have hbz : ¬ (1 : Int) < ((s[0].toNat : Nat) : Int) := by rw [hx]; omega
  have hcmp : ((s.extract 0 1).toList == flagS true) = b := by
    rw [Lib.toList_data, take_data, hl]
    cases b <;> rfl
  have hd : Hid ((s.extract 1 s.size).data.toList = r) := Lib.hid (by rw [drop_data, hl2]; rfl)
  have Hc := Lib.hid hcmp
  unfold maxLen at hs
  clear hl hl2 hx hx1 hcmp
  go_enter Try.func45, Try.ntmps45
  go_wp2_with fail
  refine cS.mono ?_
  rintro e w1 ⟨rfl, rfl⟩
  go_wp2_with fail
  refine cL.mono ?_
  rintro e w1 ⟨rfl, rfl⟩
  go_wp2_with fail
  refine cT.mono ?_
  rintro e w1 ⟨rfl, hr, hb⟩
  have HR := Lib.hid hr
  have HB := Lib.hid hb
  clear hr hb
  go_wp2_with fail
  refine (cW _).mono ?_
  rintro e w2 ⟨rfl, rfl⟩
  have hcmp := Hc.out
  go_wp2
  go_ret
  exact ⟨by simp [Hc.out], _, hd.out, HR.out, HB.out⟩
end CR
end Go.Proofs.Ytdkfoakmjeealaa
