/- Layer 3: the walk of the statement CodeOneWay: it answers true, for every text and every list of calls. -/
import Derived.Test.YtmcofccmbbjkjaaCodeWr
namespace Go.Proofs.Ytmcofccmbbjkjaa
open Go.RowKit Go.Lib
namespace CL
open CP CR

abbrev Cl := Int × Int × Int
/-- A list of calls, as it lies: in whatever block, from whatever place on. -/
def CallsAt (w : World) (ao : Option Addr) (cs : List Cl) : Prop :=
  0 < cs.length → ∃ g o, ao = some ⟨g, o, none⟩ ∧ g < w.heap.size ∧ ∀ (k : Nat) c, cs[k]? = some c → w.cell? ⟨g, o + k * 3, none⟩ = some (.int .i64 c.1) ∧ w.cell? ⟨g, o + k * 3 + 1, none⟩ = some (.int .i64 c.2.1) ∧ w.cell? ⟨g, o + k * 3 + 2, none⟩ = some (.int .i64 c.2.2)
def Yes (w : World) (e : Ending) (w' : World) : Prop := e = .returned (.bool true) ∧ Below w.heap.size w w'
/-- Behind a call that has read the bytes p: the text so far, and what is left. -/
theorem glue {t v s u l : ByteArray} {p : List UInt8} (h1 : t.data.toList ++ l.data.toList = s.data.toList) (h2 : v.data.toList = p) (h3 : l.data.toList = p ++ u.data.toList) (h0 : 0 < p.length) (hs : s.size ≤ maxLen) :
    (t ++ v).data.toList ++ u.data.toList = s.data.toList ∧ t.size + v.size + u.size = s.size ∧ u.size < l.size ∧ ((s.extract 0 (t.size + v.size)).toList == (t ++ v).toList) = true := by
  have e : (t ++ v).data.toList = t.data.toList ++ p := by rw [← h2]; simp [ByteArray.data_append]
  have e1 : (t ++ v).data.toList ++ u.data.toList = s.data.toList := by rw [e, ← h1, h3, List.append_assoc]
  have l1 := congrArg List.length h3
  have l2 := congrArg List.length e1
  have l3 := congrArg List.length h2
  rw [List.length_append] at l1 l2
  rw [← Lib.size_eq, ← Lib.size_eq] at l1
  rw [← Lib.size_eq, ← Lib.size_eq, ← Lib.size_eq, ByteArray.size_append] at l2
  refine ⟨e1, l2, by omega, ?_⟩
  rw [Lib.toList_data, Lib.toList_data, take_data, ← e1, List.take_append_of_le_length]
  · rw [List.take_of_length_le]
    · simp
    · rw [← Lib.size_eq, ByteArray.size_append]; omega
  · rw [← Lib.size_eq, ByteArray.size_append]; omega
theorem rd_pos {l : List UInt8} {x wd : Nat} (h : rd 0 0 l = (x, wd, 0)) : nm x ++ l.drop wd = l ∧ 0 < wd ∧ x < 2 ^ 63 ∧ wd = (nm x).length := by
  obtain ⟨h1, h2, h3, h4⟩ := rd_one h
  have e9 : (128 : Nat) ^ 9 = 2 ^ 63 := by decide
  have h0 : 0 < wd := by rw [h2]; exact List.length_pos_iff.2 (nm_ne x)
  exact ⟨by rw [← h1, List.take_append_drop], h0, by omega, h2⟩
/-- End, behind a call without a fault. -/
theorem end_ok (bk : Nat) (s : ByteArray) (w : World) (h : RdAt bk s 0 w) (hs : s.size ≤ maxLen) :
    ∃ E : Int, (E = 0 ∨ E = 32) ∧ Calls Try.prog 19 #[ptr bk] w fun e w' => e = .returned (.int .i64 E) ∧ w = w' := by
  have cE := end_any bk s 0 w h hs
  rw [if_neg (by simp)] at cE
  by_cases h0 : s.data.toList = []
  · rw [if_pos h0] at cE
    exact ⟨0, .inl rfl, cE⟩
  · rw [if_neg h0] at cE
    exact ⟨32, .inr rfl, cE⟩
theorem end_bad (bk : Nat) (s : ByteArray) (f : Int) (w : World) (h : RdAt bk s f w) (hs : s.size ≤ maxLen) (hf : f ≠ 0) :
    Calls Try.prog 19 #[ptr bk] w fun e w' => e = .returned (.int .i64 f) ∧ w = w' := by
  have cE := end_any bk s f w h hs
  rw [if_pos hf] at cE
  exact cE
theorem same_size {s l : ByteArray} (h : s.data.toList = l.data.toList) : s.size = l.size := by rw [Lib.size_eq, h, ← Lib.size_eq]
theorem cnt_bad {l : List UInt8} {most least : Int} (h : (cnt l most least).2.2 ≠ 0) : ∃ e, cnt l most least = (0, 0, e) ∧ (e = 30 ∨ e = 31 ∨ e = 32) := by
  rcases cnt_cases l most least with ⟨h1, h2, _⟩ | h1
  · rw [h1] at h
    exact absurd h2 h
  · exact h1
theorem rd_bad {l : List UInt8} (h : (rd 0 0 l).2.2 ≠ 0) : ∃ e, rd 0 0 l = (0, 0, e) ∧ (e = 30 ∨ e = 31) := by
  rcases rd_err l 0 0 with h1 | h1 | h1
  · exact absurd h1 h
  · exact ⟨30, h1, by simp⟩
  · exact ⟨31, h1, by simp⟩
theorem tri_zero {a : Nat × Nat × Nat} (h : a.2.2 = 0) : ∃ x wd, a = (x, wd, 0) := ⟨a.1, a.2.1, by rw [← h]⟩
theorem wflag_post (b : Bool) (w : World) : Calls Try.prog 10 #[.bool b] w (NumPost (flagS b) w) :=
  (wflag_any b w).mono fun _ _ ⟨he, hw⟩ => ⟨_, he, rfl, hw ▸ Below.refl _ _⟩
theorem byte_one {x : UInt8} (h0 : x ≠ 0) (h1 : ¬ 1 < x.toNat) : x = 1 := by
  have h2 : x.toNat ≠ 0 := fun e => h0 (UInt8.toNat_inj.1 e)
  have h3 : x.toNat = 1 := by omega
  exact UInt8.toNat_inj.1 h3
theorem textS_pos (l : List UInt8) : 0 < (textS l).length := by
  unfold textS
  rw [List.length_append]
  have := List.length_pos_iff.2 (nm_ne l.length)
  omega
/-- A text that is read is written as the bytes that were read. -/
theorem text_is {l : List UInt8} {most : Int} {x wd : Nat} {u : ByteArray} (h : cnt l most 1 = (x, wd, 0)) (hu : u.data.toList = (l.drop wd).take x) : textS u.data.toList ++ l.drop (wd + x) = l := by
  have hroom := text_room h
  have hp := rd_pos (cnt_is h).1
  have hlen : ((l.drop wd).take x).length = x := by
    rw [List.length_take, List.length_drop]
    omega
  rw [hu]
  unfold textS
  rw [hlen, List.append_assoc, ← List.drop_drop, List.take_append_drop]
  exact hp.1
set_option maxRecDepth 100000 in
set_option maxHeartbeats 6400000 in
theorem oneway_law (s : ByteArray) (ao : Option Addr) (c : Nat) (cs : List Cl) (w : World) (hs : s.size ≤ maxLen) (hcs : cs.length ≤ maxLen) (hr : CallsAt w ao cs) :
    Calls Try.prog 5 #[.string s, .slice ao cs.length c] w (Yes w) := by
  have cAw := awake_any w
  have HC := Lib.hid hr
  have Hs := Lib.hid hs
  unfold maxLen at hs hcs
  clear hr
  go_enter Try.func5, Try.ntmps5
  go_wp2_with fail
  refine cAw.mono ?_
  rintro e w1 ⟨rfl, hb1⟩
  have HB1 := Lib.hid hb1
  have hbk : w.heap.size ≤ w1.heap.size := hb1.size
  clear hb1 cAw
  go_wp2_with fail
  refine (new_any s w1).mono ?_
  rintro e w2 ⟨rfl, hrd, hb2⟩
  have HR2 := Lib.hid hrd
  have HB2 := Lib.hid (HB1.out.trans (hb2.mono hbk))
  clear hrd hb2
  go_wp2
  go_loopw [6, 18] (fun s6 s18 wr => ∃ (k : Nat) (t l : ByteArray), k ≤ cs.length ∧ s18 = .int .i64 k ∧ s6 = .string t ∧ t.data.toList ++ l.data.toList = s.data.toList ∧ RdAt w1.heap.size l 0 wr ∧ Below w.heap.size w wr) (fun _ s18 _ => cs.length - (Go.RowKit.intOf s18).toNat)
  case atStart => exact ⟨0, ByteArray.empty, s, Nat.zero_le _, rfl, rfl, rfl, HR2.out, HB2.out⟩
  case round =>
    obtain ⟨k, t, l, hk, rfl, rfl, htl, hrd, hb⟩ := hrel
    have HTL := Lib.hid htl
    have Hb := Lib.hid hb
    have hsum : t.size + l.size = s.size := by
      have := congrArg List.length htl
      rw [List.length_append, ← Lib.size_eq, ← Lib.size_eq, ← Lib.size_eq] at this
      exact this
    clear htl
    by_cases hlt : k < cs.length
    · obtain ⟨⟨what, most, least⟩, hc⟩ : ∃ c, cs[k]? = some c := ⟨cs[k], List.getElem?_eq_getElem hlt⟩
      obtain ⟨g, o, rfl, hg, hcc⟩ := HC.out (by omega)
      obtain ⟨d0, d1, d2⟩ := hcc k _ hc
      have hz : (k : Int) < cs.length := by omega
      have hc0 : wr.cell? ⟨g, o + k * 3, none⟩ = some (.int .i64 what) := by rw [hb.cell (p := ⟨g, o + k * 3, none⟩) hg]; exact d0
      have hc1 : wr.cell? ⟨g, o + k * 3 + 1, none⟩ = some (.int .i64 most) := by rw [hb.cell (p := ⟨g, o + k * 3 + 1, none⟩) hg]; exact d1
      have hc2 : wr.cell? ⟨g, o + k * 3 + 2, none⟩ = some (.int .i64 least) := by rw [hb.cell (p := ⟨g, o + k * 3 + 2, none⟩) hg]; exact d2
      have hal : Below wr.heap.size wr (wr.alloc (.cells #[.int .i64 what, .int .i64 most, .int .i64 least] 39)) := (Below.refl _ _).alloc (Nat.le_refl _) _
      have hb3 : Below w.heap.size w (wr.alloc (.cells #[.int .i64 what, .int .i64 most, .int .i64 least] 39)) := hb.trans (hal.mono hb.size)
      have hr3 : RdAt w1.heap.size l 0 (wr.alloc (.cells #[.int .i64 what, .int .i64 most, .int .i64 least] 39)) := hrd.keep hal hrd.lt
      have q0 := World.cell?_alloc_at (w := wr) #[.int .i64 what, .int .i64 most, .int .i64 least] 39 wr.heap.size 0 rfl
      have q1 := World.cell?_alloc_at (w := wr) #[.int .i64 what, .int .i64 most, .int .i64 least] 39 wr.heap.size 1 rfl
      have q2 := World.cell?_alloc_at (w := wr) #[.int .i64 what, .int .i64 most, .int .i64 least] 39 wr.heap.size 2 rfl
      have cL := rleft_any w1.heap.size l 0 _ hr3 (by unfold maxLen; omega)
      have HR3 := Lib.hid hr3
      have HB3 := Lib.hid hb3
      have hlm : l.size ≤ maxLen := by unfold maxLen; omega
      clear hc d0 d1 d2 hcc hal hb3 hr3 hb hrd
      by_cases h0 : what = 0
      · subst h0
        by_cases h0 : (rd 0 0 l.data.toList).2.2 = 0
        · obtain ⟨x, wd, hx⟩ := tri_zero h0
          have hp := rd_pos hx
          have hx63 := hp.2.2.1
          clear h0
          go_wp2_with fail
          refine cL.mono ?_
          rintro e w3 ⟨rfl, rfl⟩
          go_wp2_with fail
          refine (num_ok w1.heap.size l _ x wd HR3.out hlm hx).mono ?_
          rintro e w4 ⟨rfl, s4, hs4, hr4, hb4⟩
          have HR4 := Lib.hid hr4
          have HB4 := Lib.hid (HB3.out.trans (hb4.mono hbk))
          have Hs4 := Lib.hid hs4
          clear hs4 hr4 hb4
          go_wp2_with fail
          refine (num_nat x w4 (by first | decide | assumption)).mono ?_
          rintro e w5 ⟨v, rfl, hv, hb5⟩
          have Hv := Lib.hid hv
          have HR5 := Lib.hid (HR4.out.keep hb5 HR4.out.lt)
          have HB5 := Lib.hid (HB4.out.trans (hb5.mono HB4.out.size))
          clear hv hb5
          obtain ⟨g1, g2, g3, g4⟩ := glue HTL.out Hv.out (by rw [Hs4.out]; exact hp.1.symm) (by rw [← hp.2.2.2]; exact hp.2.1) Hs.out
          have g2z : (t.size : Int) + v.size + s4.size = s.size := by omega
          obtain ⟨E, hE, cE⟩ := end_ok w1.heap.size s4 w5 HR5.out (by omega)
          have cL5 := rleft_any w1.heap.size s4 0 w5 HR5.out (by omega)
          have hne : (s4.size : Int) < l.size := by omega
          have G1 := Lib.hid g1
          clear g1 g2 g3
          rcases hE with rfl | rfl
          all_goals
            go_wp2_with fail
            refine cE.mono ?_
            rintro e w6 ⟨rfl, rfl⟩
            go_wp2_with fail
            refine cL5.mono ?_
            rintro e w6 ⟨rfl, rfl⟩
            go_wp2_with fail
            refine cL5.mono ?_
            rintro e w6 ⟨rfl, rfl⟩
            go_wp2
            go_roundw
            case rel => exact ⟨k + 1, _, s4, by omega, by go_num, rfl, G1.out, HR5.out, HB5.out⟩
            case measure => simp [Go.RowKit.intOf]; omega
        · obtain ⟨e0, hx, he0⟩ := rd_bad h0
          have hez : (e0 : Int) = 30 ∨ (e0 : Int) = 31 := by omega
          have he1 : ((e0 : Int) != 0) = true := by simp; omega
          have he2 : ((e0 : Int) != 32) = true := by simp; omega
          clear h0
          go_wp2_with fail
          refine cL.mono ?_
          rintro e w3 ⟨rfl, rfl⟩
          go_wp2_with fail
          refine (num_bad w1.heap.size l _ e0 HR3.out hlm hx (by omega)).mono ?_
          rintro e w4 ⟨rfl, s4, hs4, hr4, hb4⟩
          have HR4 := Lib.hid hr4
          have HB4 := Lib.hid (HB3.out.trans (hb4.mono hbk))
          have es4 := same_size hs4
          clear hs4 hr4 hb4
          go_wp2_with fail
          refine (num_nat 0 w4 (by first | decide | assumption)).mono ?_
          rintro e w5 ⟨v, rfl, hv, hb5⟩
          have Hv := Lib.hid hv
          have HR5 := Lib.hid (HR4.out.keep hb5 HR4.out.lt)
          have HB5 := Lib.hid (HB4.out.trans (hb5.mono HB4.out.size))
          clear hv hb5
          have cE := end_bad w1.heap.size s4 e0 w5 HR5.out (by omega) (by first | decide | omega)
          have cL5 := rleft_any w1.heap.size s4 e0 w5 HR5.out (by omega)
          rw [es4] at cL5
          clear es4
          go_wp2_with fail
          refine cE.mono ?_
          rintro e w6 ⟨rfl, rfl⟩
          go_wp2_with fail
          refine cL5.mono ?_
          rintro e w6 ⟨rfl, rfl⟩
          go_wp2_with fail
          go_ret
          exact ⟨rfl, HB5.out⟩
      by_cases h1 : what = 1
      · subst h1
        by_cases h0 : (cnt l.data.toList most 1).2.2 = 0
        · obtain ⟨x, wd, hx⟩ := tri_zero h0
          clear h0
          go_wp2_with fail
          refine cL.mono ?_
          rintro e w3 ⟨rfl, rfl⟩
          go_wp2_with fail
          refine (text_ok w1.heap.size l most _ x wd HR3.out hlm hx).mono ?_
          rintro e w4 ⟨u, hu, rfl, s4, hs4, hr4, hb4⟩
          have HR4 := Lib.hid hr4
          have HB4 := Lib.hid (HB3.out.trans (hb4.mono hbk))
          have Hs4 := Lib.hid hs4
          clear hs4 hr4 hb4
          have htx := text_is hx hu
          have hroom : (nm u.size).length + u.size ≤ maxLen := by
            have := congrArg List.length htx
            unfold textS at this
            rw [List.length_append, List.length_append, ← Lib.size_eq, ← Lib.size_eq] at this
            omega
          have Htx := Lib.hid htx
          clear hu htx
          go_wp2_with fail
          refine (text_wr u w4 hroom).mono ?_
          rintro e w5 ⟨v, rfl, hv, hb5⟩
          have Hv := Lib.hid hv
          have HR5 := Lib.hid (HR4.out.keep hb5 HR4.out.lt)
          have HB5 := Lib.hid (HB4.out.trans (hb5.mono HB4.out.size))
          clear hv hb5
          obtain ⟨g1, g2, g3, g4⟩ := glue HTL.out Hv.out (by rw [Hs4.out]; exact Htx.out.symm) (textS_pos _) Hs.out
          have g2z : (t.size : Int) + v.size + s4.size = s.size := by omega
          obtain ⟨E, hE, cE⟩ := end_ok w1.heap.size s4 w5 HR5.out (by omega)
          have cL5 := rleft_any w1.heap.size s4 0 w5 HR5.out (by omega)
          have hne : (s4.size : Int) < l.size := by omega
          have G1 := Lib.hid g1
          clear g1 g2 g3
          rcases hE with rfl | rfl
          all_goals
            go_wp2_with fail
            refine cE.mono ?_
            rintro e w6 ⟨rfl, rfl⟩
            go_wp2_with fail
            refine cL5.mono ?_
            rintro e w6 ⟨rfl, rfl⟩
            go_wp2_with fail
            refine cL5.mono ?_
            rintro e w6 ⟨rfl, rfl⟩
            go_wp2
            go_roundw
            case rel => exact ⟨k + 1, _, s4, by omega, by go_num, rfl, G1.out, HR5.out, HB5.out⟩
            case measure => simp [Go.RowKit.intOf]; omega
        · obtain ⟨e0, hx, he0⟩ := cnt_bad h0
          clear h0
          by_cases h32 : e0 = 32
          · subst h32
            go_wp2_with fail
            refine cL.mono ?_
            rintro e w3 ⟨rfl, rfl⟩
            go_wp2_with fail
            refine (text_bad w1.heap.size l most _ 32 HR3.out hlm hx (by omega)).mono ?_
            rintro e w4 ⟨u, hu, rfl, s4, hs4, hr4, hb4⟩
            have HR4 := Lib.hid hr4
            have HB4 := Lib.hid (HB3.out.trans (hb4.mono hbk))
            have es4 := same_size hs4
            clear hs4 hr4 hb4
            have hroom : (nm u.size).length + u.size ≤ maxLen := by
              have hz0 : u.size = 0 := by rw [Lib.size_eq, hu]; rfl
              rw [hz0, nm_lt (by decide)]
              decide
            have Hu := Lib.hid hu
            clear hu
            go_wp2_with fail
            refine (text_wr u w4 hroom).mono ?_
            rintro e w5 ⟨v, rfl, hv, hb5⟩
            have Hv := Lib.hid hv
            have HR5 := Lib.hid (HR4.out.keep hb5 HR4.out.lt)
            have HB5 := Lib.hid (HB4.out.trans (hb5.mono HB4.out.size))
            clear hv hb5
            have cE := end_bad w1.heap.size s4 32 w5 HR5.out (by omega) (by first | decide | omega)
            have cL5 := rleft_any w1.heap.size s4 32 w5 HR5.out (by omega)
            rw [es4] at cL5
            clear es4
            go_wp2_with fail
            refine cE.mono ?_
            rintro e w6 ⟨rfl, rfl⟩
            go_wp2_with fail
            refine cL5.mono ?_
            rintro e w6 ⟨rfl, rfl⟩
            go_wp2_with fail
            refine cL5.mono ?_
            rintro e w6 ⟨rfl, rfl⟩
            go_wp2_with fail
            go_ret
            exact ⟨rfl, HB5.out⟩
          · have he1 : ((e0 : Int) != 0) = true := by simp; omega
            have he2 : ((e0 : Int) != 32) = true := by simp; omega
            go_wp2_with fail
            refine cL.mono ?_
            rintro e w3 ⟨rfl, rfl⟩
            go_wp2_with fail
            refine (text_bad w1.heap.size l most _ e0 HR3.out hlm hx (by omega)).mono ?_
            rintro e w4 ⟨u, hu, rfl, s4, hs4, hr4, hb4⟩
            have HR4 := Lib.hid hr4
            have HB4 := Lib.hid (HB3.out.trans (hb4.mono hbk))
            have es4 := same_size hs4
            clear hs4 hr4 hb4
            have hroom : (nm u.size).length + u.size ≤ maxLen := by
              have hz0 : u.size = 0 := by rw [Lib.size_eq, hu]; rfl
              rw [hz0, nm_lt (by decide)]
              decide
            have Hu := Lib.hid hu
            clear hu
            go_wp2_with fail
            refine (text_wr u w4 hroom).mono ?_
            rintro e w5 ⟨v, rfl, hv, hb5⟩
            have Hv := Lib.hid hv
            have HR5 := Lib.hid (HR4.out.keep hb5 HR4.out.lt)
            have HB5 := Lib.hid (HB4.out.trans (hb5.mono HB4.out.size))
            clear hv hb5
            have cE := end_bad w1.heap.size s4 e0 w5 HR5.out (by omega) (by first | decide | omega)
            have cL5 := rleft_any w1.heap.size s4 e0 w5 HR5.out (by omega)
            rw [es4] at cL5
            clear es4
            go_wp2_with fail
            refine cE.mono ?_
            rintro e w6 ⟨rfl, rfl⟩
            go_wp2_with fail
            refine cL5.mono ?_
            rintro e w6 ⟨rfl, rfl⟩
            go_wp2_with fail
            go_ret
            exact ⟨rfl, HB5.out⟩
      by_cases h2 : what = 2
      · subst h2
        cases hx : l.data.toList with
        | nil =>
          go_wp2_with fail
          refine cL.mono ?_
          rintro e w3 ⟨rfl, rfl⟩
          go_wp2_with fail
          refine (flag_none w1.heap.size l _ HR3.out hx).mono ?_
          rintro e w4 ⟨rfl, s4, hs4, hr4, hb4⟩
          have HR4 := Lib.hid hr4
          have HB4 := Lib.hid (HB3.out.trans (hb4.mono hbk))
          have es4 := same_size hs4
          clear hs4 hr4 hb4
          go_wp2_with fail
          refine (wflag_post _ w4).mono ?_
          rintro e w5 ⟨v, rfl, hv, hb5⟩
          have Hv := Lib.hid hv
          have HR5 := Lib.hid (HR4.out.keep hb5 HR4.out.lt)
          have HB5 := Lib.hid (HB4.out.trans (hb5.mono HB4.out.size))
          clear hv hb5
          have cE := end_bad w1.heap.size s4 30 w5 HR5.out (by omega) (by first | decide | omega)
          have cL5 := rleft_any w1.heap.size s4 30 w5 HR5.out (by omega)
          rw [es4] at cL5
          clear es4
          go_wp2_with fail
          refine cE.mono ?_
          rintro e w6 ⟨rfl, rfl⟩
          go_wp2_with fail
          refine cL5.mono ?_
          rintro e w6 ⟨rfl, rfl⟩
          go_wp2_with fail
          go_ret
          exact ⟨rfl, HB5.out⟩
        | cons x r =>
          by_cases hx1 : 1 < x.toNat
          · skip
            go_wp2_with fail
            refine cL.mono ?_
            rintro e w3 ⟨rfl, rfl⟩
            go_wp2_with fail
            refine (flag_big w1.heap.size l x r _ HR3.out hlm hx hx1).mono ?_
            rintro e w4 ⟨rfl, s4, hs4, hr4, hb4⟩
            have HR4 := Lib.hid hr4
            have HB4 := Lib.hid (HB3.out.trans (hb4.mono hbk))
            have es4 := same_size hs4
            clear hs4 hr4 hb4
            go_wp2_with fail
            refine (wflag_post _ w4).mono ?_
            rintro e w5 ⟨v, rfl, hv, hb5⟩
            have Hv := Lib.hid hv
            have HR5 := Lib.hid (HR4.out.keep hb5 HR4.out.lt)
            have HB5 := Lib.hid (HB4.out.trans (hb5.mono HB4.out.size))
            clear hv hb5
            have cE := end_bad w1.heap.size s4 31 w5 HR5.out (by omega) (by first | decide | omega)
            have cL5 := rleft_any w1.heap.size s4 31 w5 HR5.out (by omega)
            rw [es4] at cL5
            clear es4
            go_wp2_with fail
            refine cE.mono ?_
            rintro e w6 ⟨rfl, rfl⟩
            go_wp2_with fail
            refine cL5.mono ?_
            rintro e w6 ⟨rfl, rfl⟩
            go_wp2_with fail
            go_ret
            exact ⟨rfl, HB5.out⟩
          · obtain ⟨b, hx⟩ : ∃ b, l.data.toList = flagS b ++ r := by
              by_cases h0 : x = 0
              · exact ⟨false, by rw [hx, h0]; rfl⟩
              · exact ⟨true, by rw [hx, byte_one h0 hx1]; rfl⟩
            clear hx1
            go_wp2_with fail
            refine cL.mono ?_
            rintro e w3 ⟨rfl, rfl⟩
            go_wp2_with fail
            refine (flag_ok w1.heap.size l b r _ HR3.out hlm hx).mono ?_
            rintro e w4 ⟨rfl, s4, hs4, hr4, hb4⟩
            have HR4 := Lib.hid hr4
            have HB4 := Lib.hid (HB3.out.trans (hb4.mono hbk))
            have Hs4 := Lib.hid hs4
            clear hs4 hr4 hb4
            go_wp2_with fail
            refine (wflag_post _ w4).mono ?_
            rintro e w5 ⟨v, rfl, hv, hb5⟩
            have Hv := Lib.hid hv
            have HR5 := Lib.hid (HR4.out.keep hb5 HR4.out.lt)
            have HB5 := Lib.hid (HB4.out.trans (hb5.mono HB4.out.size))
            clear hv hb5
            obtain ⟨g1, g2, g3, g4⟩ := glue HTL.out Hv.out (by rw [Hs4.out]; exact hx) (by cases b <;> decide) Hs.out
            have g2z : (t.size : Int) + v.size + s4.size = s.size := by omega
            obtain ⟨E, hE, cE⟩ := end_ok w1.heap.size s4 w5 HR5.out (by omega)
            have cL5 := rleft_any w1.heap.size s4 0 w5 HR5.out (by omega)
            have hne : (s4.size : Int) < l.size := by omega
            have G1 := Lib.hid g1
            clear g1 g2 g3
            rcases hE with rfl | rfl
            all_goals
              go_wp2_with fail
              refine cE.mono ?_
              rintro e w6 ⟨rfl, rfl⟩
              go_wp2_with fail
              refine cL5.mono ?_
              rintro e w6 ⟨rfl, rfl⟩
              go_wp2_with fail
              refine cL5.mono ?_
              rintro e w6 ⟨rfl, rfl⟩
              go_wp2
              go_roundw
              case rel => exact ⟨k + 1, _, s4, by omega, by go_num, rfl, G1.out, HR5.out, HB5.out⟩
              case measure => simp [Go.RowKit.intOf]; omega
      by_cases h3 : what = 3
      · subst h3
        by_cases h0 : (cnt l.data.toList most least).2.2 = 0
        · obtain ⟨x, wd, hx⟩ := tri_zero h0
          have hp := rd_pos (cnt_is hx).1
          have hx63 := hp.2.2.1
          clear h0
          go_wp2_with fail
          refine cL.mono ?_
          rintro e w3 ⟨rfl, rfl⟩
          go_wp2_with fail
          refine (count_ok w1.heap.size l most least _ x wd HR3.out hlm hx).mono ?_
          rintro e w4 ⟨rfl, s4, hs4, hr4, hb4⟩
          have HR4 := Lib.hid hr4
          have HB4 := Lib.hid (HB3.out.trans (hb4.mono hbk))
          have Hs4 := Lib.hid hs4
          clear hs4 hr4 hb4
          go_wp2_with fail
          refine (num_nat x w4 (by first | decide | assumption)).mono ?_
          rintro e w5 ⟨v, rfl, hv, hb5⟩
          have Hv := Lib.hid hv
          have HR5 := Lib.hid (HR4.out.keep hb5 HR4.out.lt)
          have HB5 := Lib.hid (HB4.out.trans (hb5.mono HB4.out.size))
          clear hv hb5
          obtain ⟨g1, g2, g3, g4⟩ := glue HTL.out Hv.out (by rw [Hs4.out]; exact hp.1.symm) (by rw [← hp.2.2.2]; exact hp.2.1) Hs.out
          have g2z : (t.size : Int) + v.size + s4.size = s.size := by omega
          obtain ⟨E, hE, cE⟩ := end_ok w1.heap.size s4 w5 HR5.out (by omega)
          have cL5 := rleft_any w1.heap.size s4 0 w5 HR5.out (by omega)
          have hne : (s4.size : Int) < l.size := by omega
          have G1 := Lib.hid g1
          clear g1 g2 g3
          rcases hE with rfl | rfl
          all_goals
            go_wp2_with fail
            refine cE.mono ?_
            rintro e w6 ⟨rfl, rfl⟩
            go_wp2_with fail
            refine cL5.mono ?_
            rintro e w6 ⟨rfl, rfl⟩
            go_wp2_with fail
            refine cL5.mono ?_
            rintro e w6 ⟨rfl, rfl⟩
            go_wp2
            go_roundw
            case rel => exact ⟨k + 1, _, s4, by omega, by go_num, rfl, G1.out, HR5.out, HB5.out⟩
            case measure => simp [Go.RowKit.intOf]; omega
        · obtain ⟨e0, hx, he0⟩ := cnt_bad h0
          clear h0
          by_cases h32 : e0 = 32
          · subst h32
            go_wp2_with fail
            refine cL.mono ?_
            rintro e w3 ⟨rfl, rfl⟩
            go_wp2_with fail
            refine (count_bad w1.heap.size l most least _ 32 HR3.out hlm hx (by omega)).mono ?_
            rintro e w4 ⟨rfl, s4, hs4, hr4, hb4⟩
            have HR4 := Lib.hid hr4
            have HB4 := Lib.hid (HB3.out.trans (hb4.mono hbk))
            have es4 := same_size hs4
            clear hs4 hr4 hb4
            go_wp2_with fail
            refine (num_nat 0 w4 (by first | decide | assumption)).mono ?_
            rintro e w5 ⟨v, rfl, hv, hb5⟩
            have Hv := Lib.hid hv
            have HR5 := Lib.hid (HR4.out.keep hb5 HR4.out.lt)
            have HB5 := Lib.hid (HB4.out.trans (hb5.mono HB4.out.size))
            clear hv hb5
            have cE := end_bad w1.heap.size s4 32 w5 HR5.out (by omega) (by first | decide | omega)
            have cL5 := rleft_any w1.heap.size s4 32 w5 HR5.out (by omega)
            rw [es4] at cL5
            clear es4
            go_wp2_with fail
            refine cE.mono ?_
            rintro e w6 ⟨rfl, rfl⟩
            go_wp2_with fail
            refine cL5.mono ?_
            rintro e w6 ⟨rfl, rfl⟩
            go_wp2_with fail
            refine cL5.mono ?_
            rintro e w6 ⟨rfl, rfl⟩
            go_wp2_with fail
            go_ret
            exact ⟨rfl, HB5.out⟩
          · have he1 : ((e0 : Int) != 0) = true := by simp; omega
            have he2 : ((e0 : Int) != 32) = true := by simp; omega
            go_wp2_with fail
            refine cL.mono ?_
            rintro e w3 ⟨rfl, rfl⟩
            go_wp2_with fail
            refine (count_bad w1.heap.size l most least _ e0 HR3.out hlm hx (by omega)).mono ?_
            rintro e w4 ⟨rfl, s4, hs4, hr4, hb4⟩
            have HR4 := Lib.hid hr4
            have HB4 := Lib.hid (HB3.out.trans (hb4.mono hbk))
            have es4 := same_size hs4
            clear hs4 hr4 hb4
            go_wp2_with fail
            refine (num_nat 0 w4 (by first | decide | assumption)).mono ?_
            rintro e w5 ⟨v, rfl, hv, hb5⟩
            have Hv := Lib.hid hv
            have HR5 := Lib.hid (HR4.out.keep hb5 HR4.out.lt)
            have HB5 := Lib.hid (HB4.out.trans (hb5.mono HB4.out.size))
            clear hv hb5
            have cE := end_bad w1.heap.size s4 e0 w5 HR5.out (by omega) (by first | decide | omega)
            have cL5 := rleft_any w1.heap.size s4 e0 w5 HR5.out (by omega)
            rw [es4] at cL5
            clear es4
            go_wp2_with fail
            refine cE.mono ?_
            rintro e w6 ⟨rfl, rfl⟩
            go_wp2_with fail
            refine cL5.mono ?_
            rintro e w6 ⟨rfl, rfl⟩
            go_wp2_with fail
            go_ret
            exact ⟨rfl, HB5.out⟩
      have n0 : (what == 0) = false := by simpa using h0
      have n1 : (what == 1) = false := by simpa using h1
      have n2 : (what == 2) = false := by simpa using h2
      have n3 : (what == 3) = false := by simpa using h3
      go_wp2_with fail
      refine cL.mono ?_
      rintro e w3 ⟨rfl, rfl⟩
      go_wp2
      go_roundw
      case rel => exact ⟨k + 1, t, l, by omega, by go_num, rfl, HTL.out, HR3.out, HB3.out⟩
      case measure => simp [Go.RowKit.intOf]; omega
    · have hz : ¬ (k : Int) < cs.length := by omega
      go_wp2
      go_ret
      exact ⟨rfl, Hb.out⟩
end CL
end Go.Proofs.Ytmcofccmbbjkjaa
