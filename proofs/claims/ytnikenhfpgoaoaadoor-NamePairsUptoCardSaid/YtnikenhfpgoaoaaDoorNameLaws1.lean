/- Layer 1: the walk of the statement NameOrder: it answers true, for every three texts. -/
import Derived.Test.YtnikenhfpgoaoaaDoorNameIn
namespace Go.Proofs.YtnikenhfpgoaoaaDoor
open Go.RowKit Go.Lib
namespace NL
open NF NI

def bA : ByteArray := ⟨#[97]⟩
def bB : ByteArray := ⟨#[98]⟩
theorem f_join : joinR ([bA, bB].map (·.data.toList)) = ([97, 47, 98], true) := by kernel_rfl
theorem f_path : NP.pathL [97, 47, 98] = true := by kernel_rfl
theorem f_path2 : NP.pathL [97, 47, 47, 98] = false := by kernel_rfl
theorem f_within : NP.withinL [97, 47, 98] [97] = true := by kernel_rfl
theorem ab_of {t : ByteArray} {b : Bool} (h : joinR ([bA, bB].map (·.data.toList)) = (t.data.toList, b)) : t = ⟨#[97, 47, 98]⟩ ∧ b = true := by
  rw [f_join] at h
  simp only [Prod.mk.injEq] at h
  refine ⟨?_, h.2.symm⟩
  have := Lib.mk_data t
  rw [← h.1] at this
  exact this.symm
theorem ab_cells (w : World) : ∀ (j : Nat) x, [bA, bB][j]? = some x → (w.alloc (.cells #[.string ⟨#[97]⟩, .string ⟨#[98]⟩] 9)).cell? ⟨w.heap.size, 0 + j, none⟩ = some (.string x) :=
  pieces_cell w [bA, bB] 9
set_option maxHeartbeats 800000 in
theorem awake_any (w : World) (he : Env w) : Calls Tryd.prog 8 #[] w fun e w' => e = .returned (.bool true) ∧ Below w.heap.size w w' := by
  have hbl : Below w.heap.size w (w.alloc (.cells #[.string ⟨#[97]⟩, .string ⟨#[98]⟩] 9)) := (Below.refl _ _).alloc (Nat.le_refl _) _
  have cJ := join_any w.heap.size 0 2 [bA, bB] _ (he.below hbl) (ab_cells w) (pieces_block w _) (fun x hx => by simp at hx; rcases hx with rfl | rfl <;> decide) (by decide) (by decide)
  have He := Lib.hid he
  have Hbl := Lib.hid hbl
  clear he hbl
  go_enter Tryd.func8, Tryd.ntmps8
  go_wp2_with fail
  refine cJ.mono ?_
  rintro e w1 ⟨t, b, rfl, ht, hb⟩
  obtain ⟨rfl, rfl⟩ := ab_of ht
  have hb1 := Hbl.out.trans (hb.mono (by simp))
  have cP1 := path_any ⟨#[97, 47, 98]⟩ w1 (He.out.below hb1) (by decide)
  have e1 : NP.pathL (⟨#[97, 47, 98]⟩ : ByteArray).data.toList = true := f_path
  rw [e1] at cP1
  have Hb1 := Lib.hid hb1
  clear ht hb hb1 cJ e1
  go_wp2_with fail
  refine cP1.mono ?_
  rintro e w2 ⟨rfl, hb⟩
  have hb2 := Hb1.out.trans (hb.mono Hb1.out.size)
  have cP2 := path_any ⟨#[97, 47, 47, 98]⟩ w2 (He.out.below hb2) (by decide)
  have e1 : NP.pathL (⟨#[97, 47, 47, 98]⟩ : ByteArray).data.toList = false := f_path2
  rw [e1] at cP2
  have Hb2 := Lib.hid hb2
  clear hb hb2 cP1 e1
  go_wp2_with fail
  refine cP2.mono ?_
  rintro e w3 ⟨rfl, hb⟩
  have hb3 := Hb2.out.trans (hb.mono Hb2.out.size)
  have cW := within_any ⟨#[97, 47, 98]⟩ ⟨#[97]⟩ w3 (He.out.below hb3) (by decide)
  have e1 : NP.withinL (⟨#[97, 47, 98]⟩ : ByteArray).data.toList (⟨#[97]⟩ : ByteArray).data.toList = true := f_within
  rw [e1] at cW
  have Hb3 := Lib.hid hb3
  clear hb hb3 cP2 e1
  go_wp2_with fail
  refine cW.mono ?_
  rintro e w4 ⟨rfl, hb⟩
  have Hb4 := Lib.hid (Hb3.out.trans (hb.mono Hb3.out.size))
  clear hb cW
  go_wp2
  go_ret
  exact ⟨rfl, Hb4.out⟩

/- NameOrder -/
theorem drawn_below {w w' : World} (h : NO.Drawn w w') : Below w.heap.size w w' := by
  obtain ⟨n, rfl⟩ := h
  exact NA.below_drewN (Below.refl _ _) n
theorem ord_case (a b : ByteArray) (x : Int) (hx : NP.ordL a.data.toList b.data.toList = x) (ha : a.size ≤ maxLen) (hb : b.size ≤ maxLen) (w : World) :
    Calls Tryd.prog 22 #[.string a, .string b] w fun e w' => e = .returned (.int .i64 x) ∧ Below w.heap.size w w' :=
  (NO.order_any a b w ha hb).mono fun e w' ⟨he, hd⟩ => ⟨by rw [he, hx], drawn_below hd⟩
theorem eq_true (a b : ByteArray) (h : NP.ordL a.data.toList b.data.toList = 0) : (a.toList == b.toList) = true := by
  rw [Lib.toList_data, Lib.toList_data, (NP.ordL_zero _ _).1 h]; simp
theorem eq_false (a b : ByteArray) (h : NP.ordL a.data.toList b.data.toList ≠ 0) : (a.toList == b.toList) = false := by
  rw [Lib.toList_data, Lib.toList_data]
  rw [beq_eq_false_iff_ne]
  intro e
  exact h ((NP.ordL_zero _ _).2 e)
def Yes (w : World) (e : Ending) (w' : World) : Prop := e = .returned (.bool true) ∧ Below w.heap.size w w'
set_option maxRecDepth 100000 in
set_option maxHeartbeats 8000000 in
theorem order_law (a b c : ByteArray) (w : World) (he : Env w) (ha : a.size ≤ maxLen) (hb : b.size ≤ maxLen) (hc : c.size ≤ maxLen) :
    Calls Tryd.prog 6 #[.string a, .string b, .string c] w (Yes w) := by
  have He := Lib.hid he
  have Ha := Lib.hid ha
  have Hb := Lib.hid hb
  have Hc := Lib.hid hc
  have cAw := awake_any w he
  clear he ha hb hc
  obtain ⟨x, hx⟩ : ∃ x, NP.ordL a.data.toList b.data.toList = x := ⟨_, rfl⟩
  obtain ⟨y, hy⟩ : ∃ y, NP.ordL b.data.toList c.data.toList = y := ⟨_, rfl⟩
  obtain ⟨z, hz⟩ : ∃ z, NP.ordL a.data.toList c.data.toList = z := ⟨_, rfl⟩
  have hr : NP.ordL b.data.toList a.data.toList = -x := by rw [NP.ordL_swap, hx]
  have hx3 := NP.ordL_cases a.data.toList b.data.toList
  have hy3 := NP.ordL_cases b.data.toList c.data.toList
  have t1 : x ≤ 0 → y ≤ 0 → z ≤ 0 := by rw [← hx, ← hy, ← hz]; exact NP.ordL_trans
  have t2 : x < 0 → y ≤ 0 → z < 0 := by rw [← hx, ← hy, ← hz]; exact NP.ordL_lt
  have hbt : NP.pathL b.data.toList = true → NP.withinL c.data.toList a.data.toList = true → x < 0 → y < 0 → NP.withinL b.data.toList a.data.toList = true := by
    rw [← hx, ← hy]; exact NP.between
  have Hbt := Lib.hid hbt
  clear hbt
  have heq : (a.toList == b.toList) = (x == 0) := by
    by_cases h0 : x = 0
    · rw [eq_true a b (by rw [hx]; exact h0)]; simp [h0]
    · rw [eq_false a b (by rw [hx]; exact h0)]; simp [h0]
  rw [hx] at hx3
  rw [hy] at hy3
  have c1 := ord_case a b x hx Ha.out Hb.out
  have c2 := ord_case b c y hy Hb.out Hc.out
  have c3 := ord_case a c z hz Ha.out Hc.out
  have c4 := ord_case b a (-x) hr Hb.out Ha.out
  clear hx hy hz hr
  have split : (x = -1 ∧ y = -1 ∧ z < 0) ∨ (x = -1 ∧ y = 0 ∧ z < 0) ∨ (x = -1 ∧ y = 1) ∨ (x = 0 ∧ y ≤ 0 ∧ z ≤ 0) ∨ (x = 0 ∧ y = 1) ∨ x = 1 := by omega
  clear hx3 hy3 t1 t2
  rcases split with ⟨rfl, rfl, hz⟩ | ⟨rfl, rfl, hz⟩ | ⟨rfl, rfl⟩ | ⟨rfl, hy, hz⟩ | ⟨rfl, rfl⟩ | rfl
  all_goals
    first
      | rw [show ((-1 : Int) == 0) = false from rfl] at heq
      | rw [show ((0 : Int) == 0) = true from rfl] at heq
      | rw [show ((1 : Int) == 0) = false from rfl] at heq
    go_enter Tryd.func6, Tryd.ntmps6
    go_wp2_with fail
    refine cAw.mono ?_
    rintro e w1 ⟨rfl, hb1⟩
    have HB1 := Lib.hid hb1
    clear hb1 cAw
    go_wp2_with fail
    refine (c1 _).mono ?_
    rintro e w2 ⟨rfl, hb2⟩
    have HB2 := Lib.hid (HB1.out.trans (hb2.mono HB1.out.size))
    clear hb2 c1 HB1
    go_wp2_with fail
    refine (c2 _).mono ?_
    rintro e w3 ⟨rfl, hb3⟩
    have HB3 := Lib.hid (HB2.out.trans (hb3.mono HB2.out.size))
    clear hb3 c2 HB2
    go_wp2_with fail
    refine (c3 _).mono ?_
    rintro e w4 ⟨rfl, hb4⟩
    have HB4 := Lib.hid (HB3.out.trans (hb4.mono HB3.out.size))
    clear hb4 c3 HB3
    go_wp2_with fail
    refine (c4 _).mono ?_
    rintro e w5 ⟨rfl, hb5⟩
    have HB5 := Lib.hid (HB4.out.trans (hb5.mono HB4.out.size))
    clear hb5 c4 HB4
    go_wp2_with fail
    refine (path_any a _ (He.out.below HB5.out) Ha.out).mono ?_
    rintro e w6 ⟨rfl, hb6⟩
    have HB6 := Lib.hid (HB5.out.trans (hb6.mono HB5.out.size))
    clear hb6 HB5
    cases hp1 : NP.pathL a.data.toList
    · clear hp1
      go_wp2
      go_ret
      exact ⟨rfl, HB6.out⟩
    · clear hp1
      go_wp2_with fail
      refine (path_any b _ (He.out.below HB6.out) Hb.out).mono ?_
      rintro e w7 ⟨rfl, hb7⟩
      have HB7 := Lib.hid (HB6.out.trans (hb7.mono HB6.out.size))
      clear hb7 HB6
      cases hp2 : NP.pathL b.data.toList
      · clear hp2
        go_wp2
        go_ret
        exact ⟨rfl, HB7.out⟩
      · have Hp2 := Lib.hid hp2
        clear hp2
        go_wp2_with fail
        refine (within_any c a _ (He.out.below HB7.out) Hc.out).mono ?_
        rintro e w8 ⟨rfl, hb8⟩
        have HB8 := Lib.hid (HB7.out.trans (hb8.mono HB7.out.size))
        clear hb8 HB7
        cases hp3 : NP.withinL c.data.toList a.data.toList
        · clear hp3
          go_wp2
          go_ret
          exact ⟨rfl, HB8.out⟩
        · have Hp3 := Lib.hid hp3
          clear hp3
          first
            | (have Hfin := Lib.hid (Hbt.out Hp2.out Hp3.out (by omega) (by omega))
               go_wp2_with fail
               refine (within_any b a _ (He.out.below HB8.out) Hb.out).mono ?_
               rintro e w9 ⟨rfl, hb9⟩
               have HB9 := Lib.hid (HB8.out.trans (hb9.mono HB8.out.size))
               clear hb9 HB8
               rw [Hfin.out]
               go_wp2
               go_ret
               exact ⟨rfl, HB9.out⟩)
            | (go_wp2
               go_ret
               exact ⟨rfl, HB8.out⟩)
end NL
end Go.Proofs.YtnikenhfpgoaoaaDoor
