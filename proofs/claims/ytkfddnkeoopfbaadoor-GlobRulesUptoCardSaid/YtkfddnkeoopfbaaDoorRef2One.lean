/- The document's answer: one. -/
import Derived.Test.YtkfddnkeoopfbaaDoorRef2Holds
import Derived.Test.YtkfddnkeoopfbaaDoorRef2Eq1
import Derived.Test.YtkfddnkeoopfbaaDoorRef2Cls
namespace Go.Proofs.YtkfddnkeoopfbaaDoor
open Go.RowKit Go.Lib
namespace RO
open GP LitN RG GR

theorem below_drewN {B : Nat} {w w' : World} (h : Below B w w') (n : Nat) : Below B w (w'.drewN n) := ⟨h.os, h.tape, h.output, h.size, fun k hk => h.block k hk⟩
theorem byte_ext {a b : ByteArray} (h : a.data.toList = b.data.toList) : a = b := by
  rw [← Lib.mk_data a, ← Lib.mk_data b, h]
def OnePost (e : El) (x k : Nat) (w : World) (r : Ending) (w' : World) : Prop := r = .returned (.tuple #[.bool (takesL e x), .int .i64 k]) ∧ Below w.heap.size w w'
theorem takes_one (y x : Nat) : takesL (.set false [(y, y)]) x = decide (y = x) := by
  have := in_one x y
  unfold inSp at this
  simp [takesL] at this ⊢
  rw [← Bool.decide_and] at this
  simpa using this
theorem takes_set (neg : Bool) (sp : List Sp) (x : Nat) : takesL (.set neg sp) x = (sp.any (inSp x) != neg) := rfl
/-- The runes of a text, as they lie: the first one. -/
theorem runes_first {t : ByteArray} {y : Nat} {R : List Nat} {xs : List ByteArray} (hv : Lib.validD t.data.toList = true) (hr : runes t.data.toList = y :: R) (hx : xs.map (·.data.toList) = rnL t.data.toList) :
    ∃ x0, xs[0]? = some x0 ∧ x0.data.toList = enc y ∧ 0 < xs.length := by
  rw [rn_valid _ _ (Nat.le_refl _) hv, hr] at hx
  cases xs with
  | nil => simp at hx
  | cons x0 xs =>
    rw [List.map_cons, List.map_cons] at hx
    simp only [List.cons.injEq] at hx
    exact ⟨x0, rfl, hx.1, by simp⟩
theorem vr_first {l : List UInt8} {y : Nat} {R : List Nat} (hv : Lib.validD l = true) (hr : runes l = y :: R) : VR y := runes_vr _ l (Nat.le_refl _) hv y (by rw [hr]; simp)
theorem el_esc {t : List UInt8} {e : El} {k : Nat} (hv : Lib.validD (92 :: t) = true) (h : elL (92 :: t) = some (e, k)) :
    ∃ y R, Lib.validD t = true ∧ runes t = y :: R ∧ e = .set false [(y, y)] ∧ k = (enc y).length + 1 := by
  obtain ⟨x, t2, ht, _, hvt, _, key⟩ := first_rune (l := 92 :: t) (by simp) hv
  have hx : x = 92 := (head_is (b := 92) (by decide) t2).1 (by rw [← ht]; rfl)
  subst hx
  rw [enc_low (by decide), List.singleton_append] at ht
  have ht2 : t = t2 := by simpa using ht
  subst ht2
  unfold elL at h
  rw [if_neg (by simp), if_neg (by simp), if_neg (by simp)] at h
  by_cases h0 : (runeL (92 :: t)).2 = 0
  · rw [if_pos h0] at h; cases h
  · rw [if_neg h0] at h
    have hne : t ≠ [] := by
      rintro rfl
      apply h0
      rfl
    obtain ⟨y, s, rfl, hd2, hvs, hne3, key2⟩ := first_rune hne hvt
    have hr : runeL (92 :: (enc y ++ s)) = (y, (enc y).length + 1) := by
      unfold runeL
      rw [if_pos (show (92 :: (enc y ++ s)).head? = some 92 from rfl), List.tail_cons]
      have e : decL (enc y ++ s) = (y, (enc y).length) := by
        unfold decL
        rw [if_neg hne, hd2]
      rw [e]
      have hl : 0 < (enc y).length := List.length_pos_iff.2 hne3
      simp only [if_pos hl]
    rw [hr] at h
    simp only [Option.some.injEq, Prod.mk.injEq] at h
    exact ⟨y, runes s, hvt, (key2 s hvs).2.1, h.1.symm, h.2.symm⟩
theorem el_plain {l : List UInt8} {e : El} {k : Nat} (hne : l ≠ []) (hv : Lib.validD l = true) (h42 : l.head? ≠ some 42) (h63 : l.head? ≠ some 63) (h91 : l.head? ≠ some 91) (h92 : l.head? ≠ some 92) (h : elL l = some (e, k)) :
    ∃ y R, runes l = y :: R ∧ e = .set false [(y, y)] ∧ k = (enc y).length := by
  obtain ⟨y, s, rfl, hd, hvs, _, key⟩ := first_rune hne hv
  unfold elL at h
  rw [if_neg h42, if_neg h63, if_neg h91] at h
  have hr : runeL (enc y ++ s) = (y, (enc y).length) := by
    unfold runeL
    rw [if_neg h92]
    unfold decL
    rw [if_neg hne, hd]
  rw [hr] at h
  split at h
  · cases h
  · simp only [Option.some.injEq, Prod.mk.injEq] at h
    exact ⟨y, runes s, (key s hvs).2.1, h.1.symm, h.2.symm⟩
theorem inner_ne {v inner rest : List UInt8} {o : List Sp × List UInt8} (e1 : v = inner ++ rest) (e2 : rest.head? = some 93) (hb : brR v [] = some o) : inner ≠ [] := by
  rintro rfl
  rw [List.nil_append] at e1
  subst e1
  rw [brR_end e2, if_pos rfl] at hb
  cases hb
/-- Brackets: where they end, what stands in them, and whether it is told with a '!'. -/
theorem el_br {u : List UInt8} {e : El} {k : Nat} (hv : Lib.validD (91 :: u) = true) (h47 : 47 ∉ u) (h : elL (91 :: u) = some (e, k)) :
    ∃ (neg : Bool) (inner rest : List UInt8) (sp : List Sp), rest.head? = some 93 ∧ clL (91 :: u) 0 = some (k - 1) ∧ 1 ≤ k ∧ u = (if neg then [33] else []) ++ inner ++ rest ∧ k = 2 + (if neg then 1 else 0) + inner.length ∧ (neg = false → inner.head? ≠ some 33) ∧ inner ≠ [] ∧
      Lib.validD inner = true ∧ okN (runes inner) = true ∧ e = .set neg sp ∧ ∀ r, hdN (hlN (runes inner)) r = sp.any (inSp r) := by
  have hcl := clL_br (l := 91 :: u) (u := u) (z := []) (a := 0) (.inl rfl) h47 (by simp)
  unfold elL at h
  rw [if_neg (by simp), if_neg (by simp), if_pos (by simp)] at h
  rw [h] at hcl
  simp only [Nat.zero_add] at hcl
  obtain ⟨x, t2, ht, _, hvt, _, _⟩ := first_rune (l := 91 :: u) (by simp) hv
  have hx : x = 91 := (head_is (b := 91) (by decide) t2).1 (by rw [← ht]; rfl)
  subst hx
  rw [enc_low (by decide), List.singleton_append] at ht
  have ht2 : u = t2 := by simpa using ht
  subst ht2
  unfold brL at h
  cases hb : brR (brIn (91 :: u)) [] with
  | none => rw [hb] at h; cases h
  | some q =>
    obtain ⟨sp, rest⟩ := q
    rw [hb] at h
    simp only [Option.some.injEq, Prod.mk.injEq] at h
    obtain ⟨he, hk⟩ := h
    by_cases h33 : u.head? = some 33
    · obtain ⟨v, rfl⟩ : ∃ v, u = 33 :: v := by
        cases u with
        | nil => simp at h33
        | cons y v => simp only [List.head?_cons, Option.some.injEq] at h33; subst h33; exact ⟨v, rfl⟩
      have hin : brIn (91 :: 33 :: v) = v := rfl
      rw [hin] at hb
      obtain ⟨x2, t3, ht3, _, hvv, _, _⟩ := first_rune (l := 33 :: v) (by simp) hvt
      have hx2 : x2 = 33 := (head_is (b := 33) (by decide) t3).1 (by rw [← ht3]; rfl)
      subst hx2
      rw [enc_low (by decide), List.singleton_append] at ht3
      have ht4 : v = t3 := by simpa using ht3
      subst ht4
      obtain ⟨inner, tl, e1, e2, e3, e4, e5, e6⟩ := br_holds _ v [] sp rest (Nat.le_refl _) hvv hb
      rw [List.nil_append] at e4
      subst e4
      have hlen := congrArg List.length e1
      rw [List.length_append] at hlen
      simp only [List.length_cons] at hk
      exact ⟨true, inner, rest, sp, e2, hcl, by omega, by rw [e1]; simp, by simp; omega, (fun h => by cases h), inner_ne e1 e2 hb, e3, e5, by rw [← he]; rfl, e6⟩
    · have hin : brIn (91 :: u) = u := by
        unfold brIn
        rw [List.tail_cons, if_neg h33]
      rw [hin] at hb
      obtain ⟨inner, tl, e1, e2, e3, e4, e5, e6⟩ := br_holds _ u [] sp rest (Nat.le_refl _) hvt hb
      rw [List.nil_append] at e4
      subst e4
      have hlen := congrArg List.length e1
      rw [List.length_append] at hlen
      simp only [List.length_cons] at hk
      refine ⟨false, inner, rest, sp, e2, hcl, by omega, by rw [e1]; simp, by simp; omega, fun _ h => h33 ?_, inner_ne e1 e2 hb, e3, e5, ?_, e6⟩
      · rw [e1]
        cases inner with
        | nil => simp at h
        | cons z q => simpa using h
      · rw [← he, List.tail_cons]
        have : (u.head? == some 33) = false := by simpa using h33
        rw [this]
theorem enc_four (y : Nat) : (enc y).length ≤ 4 := by
  unfold enc Lib.encodeRune Lib.encodeRuneZ
  repeat' split
  all_goals simp
theorem head_byte {p : ByteArray} {b : UInt8} {t : List UInt8} (h : p.data.toList = b :: t) : ∃ hp : 0 < p.size, p[0]'hp = b := (cons_of h).2
set_option maxRecDepth 100000 in
set_option maxHeartbeats 3200000 in
theorem one_esc (p r : ByteArray) (t : List UInt8) (x k : Nat) (e : El) (w : World) (hs : p.size ≤ 400) (hv : Lib.validD p.data.toList = true) (hp : p.data.toList = 92 :: t) (hel : elL p.data.toList = some (e, k)) (hr : r.data.toList = enc x) (hx : VR x) :
    Calls Tryd.prog 34 #[.string p, .int .i64 0, .string r] w (OnePost e x k w) := by
  rw [hp] at hv hel
  obtain ⟨y, R, hvt, hry, rfl, rfl⟩ := el_esc hv hel
  obtain ⟨hp0, hb⟩ := head_byte hp
  have hz : (0 : Int) < p.size := by omega
  have hz1 : (1 : Int) ≤ p.size := by omega
  have e63 : ((((p[0]).toNat : Nat) : Int) == 63) = false := by rw [hb]; rfl
  have e92 : ((((p[0]).toNat : Nat) : Int) == 92) = true := by rw [hb]; rfl
  have hd : (p.extract 1 p.size).data.toList = t := by rw [drop_data, hp]; rfl
  have cR := runes_any (p.extract 1 p.size) w (by rw [ByteArray.size_extract]; omega)
  have HD := Lib.hid hd
  have HR := Lib.hid hr
  have hvy := vr_first hvt hry
  have HVT := Lib.hid hvt
  have HRY := Lib.hid hry
  have HT := Lib.hid (takes_one y x)
  clear hd hb hp hv hel hr hvt hry
  go_enter Tryd.func34, Tryd.ntmps34
  go_wp2_with fail
  refine cR.mono ?_
  rintro e' w1 ⟨ao, cx, xs, rfl, _, _, _, hxe, _, hX, hW⟩
  obtain ⟨x0, h0, h0d, hxl⟩ := runes_first (by rw [HD.out]; exact HVT.out) (by rw [HD.out]; exact HRY.out) hxe
  obtain ⟨g, o, rfl, hXN⟩ := hX hxl
  have c0 := hXN.2 0 x0 h0
  rw [Nat.add_zero] at c0
  have hxlz : (0 : Int) < xs.length := by omega
  have heq := text_eq h0d HR.out hvy hx
  have hsz : x0.size = (enc y).length := by rw [Lib.size_eq, h0d]
  have h4 : (enc y).length ≤ 4 := enc_four y
  have HW := Lib.hid hW
  clear hxe hX hXN h0 h0d hW cR
  go_wp2_with fail
  go_quiet (fail)
  go_wp2_with fail
  go_ret2
  exact ⟨by rw [HT.out]; go_num, below_drewN HW.out _⟩
set_option maxRecDepth 100000 in
set_option maxHeartbeats 3200000 in
theorem one_any_rune (p r : ByteArray) (x : Nat) (w : World) (hs : p.size ≤ 400) (hp : p.data.toList.head? = some 63) :
    Calls Tryd.prog 34 #[.string p, .int .i64 0, .string r] w (OnePost (.set true []) x 1 w) := by
  obtain ⟨t, hp⟩ : ∃ t, p.data.toList = 63 :: t := by
    cases h : p.data.toList with
    | nil => rw [h] at hp; cases hp
    | cons y t => rw [h] at hp; simp only [List.head?_cons, Option.some.injEq] at hp; subst hp; exact ⟨t, rfl⟩
  obtain ⟨hp0, hb⟩ := head_byte hp
  have hz : (0 : Int) < p.size := by omega
  have e63 : ((((p[0]).toNat : Nat) : Int) == 63) = true := by rw [hb]; rfl
  clear hb hp
  go_enter Tryd.func34, Tryd.ntmps34
  go_wp2_with fail
  go_ret2
  exact ⟨rfl, Below.refl _ _⟩
set_option maxRecDepth 100000 in
set_option maxHeartbeats 3200000 in
theorem one_plain (p r : ByteArray) (x k : Nat) (e : El) (w : World) (hne : p.data.toList ≠ []) (hs : p.size ≤ 400) (hv : Lib.validD p.data.toList = true) (h42 : p.data.toList.head? ≠ some 42) (h63 : p.data.toList.head? ≠ some 63) (h91 : p.data.toList.head? ≠ some 91) (h92 : p.data.toList.head? ≠ some 92)
    (hel : elL p.data.toList = some (e, k)) (hr : r.data.toList = enc x) (hx : VR x) :
    Calls Tryd.prog 34 #[.string p, .int .i64 0, .string r] w (OnePost e x k w) := by
  obtain ⟨y, R, hry, rfl, rfl⟩ := el_plain hne hv h42 h63 h91 h92 hel
  obtain ⟨b, t, hp⟩ := List.exists_cons_of_ne_nil hne
  rw [hp] at h63 h91 h92
  simp only [List.head?_cons, ne_eq, Option.some.injEq] at h63 h91 h92
  obtain ⟨hp0, hb⟩ := head_byte hp
  have hz : (0 : Int) < p.size := by omega
  have e63 : ((((p[0]).toNat : Nat) : Int) == 63) = false := by rw [hb]; exact GR.byte_no h63
  have e92 : ((((p[0]).toNat : Nat) : Int) == 92) = false := by rw [hb]; exact GR.byte_no h92
  have e91 : ((((p[0]).toNat : Nat) : Int) == 91) = false := by rw [hb]; exact GR.byte_no h91
  have hd : (p.extract 0 p.size).data.toList = p.data.toList := by rw [drop_data]; rfl
  have hpe : p.extract 0 p.size = p := byte_ext hd
  have cR := runes_any p w (by omega)
  have hvy := vr_first hv hry
  have HV := Lib.hid hv
  have HRY := Lib.hid hry
  have HR := Lib.hid hr
  have HT := Lib.hid (takes_one y x)
  have HPE := Lib.hid hpe
  clear hd hb hp hv hel hr hry h63 h91 h92 h42 hne hpe
  go_enter Tryd.func34, Tryd.ntmps34
  go_wp2_with fail
  try rw [HPE.out]
  refine cR.mono ?_
  rintro e' w1 ⟨ao, cx, xs, rfl, _, _, _, hxe, _, hX, hW⟩
  obtain ⟨x0, h0, h0d, hxl⟩ := runes_first HV.out HRY.out hxe
  obtain ⟨g, o, rfl, hXN⟩ := hX hxl
  have c0 := hXN.2 0 x0 h0
  rw [Nat.add_zero] at c0
  have hxlz : (0 : Int) < xs.length := by omega
  have heq := text_eq h0d HR.out hvy hx
  have hsz : x0.size = (enc y).length := by rw [Lib.size_eq, h0d]
  have h4 : (enc y).length ≤ 4 := enc_four y
  have HW := Lib.hid hW
  clear hxe hX hXN h0 h0d hW cR
  go_wp2_with fail
  go_quiet (fail)
  go_wp2_with fail
  go_ret2
  exact ⟨by rw [HT.out]; go_num, below_drewN HW.out _⟩
set_option maxRecDepth 100000 in
set_option maxHeartbeats 3200000 in
theorem one_br (p r : ByteArray) (u : List UInt8) (x k : Nat) (e : El) (w : World) (hs : p.size ≤ 400) (hv : Lib.validD p.data.toList = true) (h47 : 47 ∉ p.data.toList) (hp : p.data.toList = 91 :: u)
    (hel : elL p.data.toList = some (e, k)) (hr : r.data.toList = enc x) (hx : VR x) :
    Calls Tryd.prog 34 #[.string p, .int .i64 0, .string r] w (OnePost e x k w) := by
  rw [hp] at hv h47 hel
  obtain ⟨neg, inner, rest, sp, _, hcl, hk1, hu, hk, hn33, hine, hvi, hoki, rfl, hhd⟩ := el_br hv (fun h => h47 (by simp [h])) hel
  obtain ⟨hp0, hb⟩ := head_byte hp
  have hz : (0 : Int) < p.size := by omega
  have e63 : ((((p[0]).toNat : Nat) : Int) == 63) = false := by rw [hb]; rfl
  have e92 : ((((p[0]).toNat : Nat) : Int) == 92) = false := by rw [hb]; rfl
  have e91 : ((((p[0]).toNat : Nat) : Int) == 91) = true := by rw [hb]; rfl
  have cC := closing_any p 0 w (by omega) hs
  rw [hp, hcl] at cC
  have hsz : p.size = 1 + u.length := by rw [Lib.size_eq, hp, List.length_cons]; omega
  have hul := congrArg List.length hu
  have hT := takes_set neg sp x
  rw [← hhd x] at hT
  have HT := Lib.hid hT
  obtain ⟨j, rfl⟩ : ∃ j, k = j + 2 := ⟨k - 2, by cases neg <;> simp at hk <;> omega⟩
  have ek : j + 2 - 1 = j + 1 := by omega
  have ej : clI (some (j + 1)) = (j : Int) + 1 := by
    show ((j + 1 : Nat) : Int) = _
    omega
  unfold ClPost at cC
  rw [ek, ej] at cC
  cases neg
  · have hk2 : inner.length = j := by simp at hk; omega
    have hd : (p.extract 1 (j + 1)).data.toList = inner := by
      rw [Lib.extract_data, hp, hu, ← hk2]
      simp
    have hle : j + 1 ≤ p.size := by simp at hul; omega
    have hlez : (j : Int) + 1 ≤ p.size := by omega
    have h1z : (1 : Int) ≤ (j : Int) + 1 := by omega
    have hsz2 : (p.extract 1 (j + 1)).size = j := by rw [Lib.size_eq, hd, hk2]
    have hj0 : 0 < j := by rw [← hk2]; exact List.length_pos_iff.2 hine
    have hj0z : (0 : Int) < j := by omega
    have cH := fun W => holds_any (p.extract 1 (j + 1)) r x W (by omega) (by rw [hd]; exact hvi) (by rw [hd]; exact hoki) hr hx
    rw [hd] at cH
    have hj : j ≤ 400 := by omega
    have hlt0 : 0 < (p.extract 1 (j + 1)).size := by omega
    have hb33 : (((((p.extract 1 (j + 1))[0]'hlt0).toNat : Nat) : Int) == 33) = false := by
      obtain ⟨y, q, hq⟩ := List.exists_cons_of_ne_nil hine
      obtain ⟨hp1, hy⟩ := head_byte (hd.trans hq)
      rw [hy]
      have hy33 : y ≠ 33 := by
        rintro rfl
        exact hn33 rfl (by rw [hq]; rfl)
      exact GR.byte_no hy33
    clear hr hv h47 hp hel hu hul hb hhd hT hcl hk hsz hd hn33 hine
    go_enter Tryd.func34, Tryd.ntmps34
    go_wp2_with fail
    refine cC.mono ?_
    rintro e w1 ⟨rfl, rfl⟩
    go_wp2_with fail
    refine (cH _).mono ?_
    rintro e w1 ⟨rfl, hb⟩
    have HB := Lib.hid hb
    clear hb
    go_wp2_with fail
    go_ret2
    exact ⟨by rw [HT.out]; simp; omega, HB.out⟩
  · have hk2 : inner.length + 1 = j := by simp at hk; omega
    have hd : (p.extract 1 (j + 1)).data.toList = 33 :: inner := by
      rw [Lib.extract_data, hp, hu, ← hk2]
      simp
    have hle : j + 1 ≤ p.size := by simp at hul; omega
    have hlez : (j : Int) + 1 ≤ p.size := by omega
    have h1z : (1 : Int) ≤ (j : Int) + 1 := by omega
    have hsz2 : (p.extract 1 (j + 1)).size = j := by rw [Lib.size_eq, hd, List.length_cons, hk2]
    have hj0 : 1 ≤ j := by omega
    have hj0z : (1 : Int) ≤ j := by omega
    have hj0y : (0 : Int) < j := by omega
    have hd2 : ((p.extract 1 (j + 1)).extract 1 j).data.toList = inner := by
      rw [Lib.extract_data, hd, ← hk2]
      simp
    have cH := fun W => holds_any ((p.extract 1 (j + 1)).extract 1 j) r x W (by rw [ByteArray.size_extract]; omega) (by rw [hd2]; exact hvi) (by rw [hd2]; exact hoki) hr hx
    rw [hd2] at cH
    have hj : j ≤ 400 := by omega
    have hlt0 : 0 < (p.extract 1 (j + 1)).size := by omega
    have hb33 : (((((p.extract 1 (j + 1))[0]'hlt0).toNat : Nat) : Int) == 33) = true := by
      obtain ⟨hp1, hy⟩ := head_byte hd
      rw [hy]
      rfl
    clear hr hv h47 hp hel hu hul hb hhd hT hcl hk hsz hd hn33 hine hd2
    go_enter Tryd.func34, Tryd.ntmps34
    go_wp2_with fail
    refine cC.mono ?_
    rintro e w1 ⟨rfl, rfl⟩
    go_wp2_with fail
    refine (cH _).mono ?_
    rintro e w1 ⟨rfl, hb⟩
    have HB := Lib.hid hb
    clear hb
    go_wp2_with fail
    go_ret2
    exact ⟨by rw [HT.out]; simp; omega, HB.out⟩
/-- One element of a valid part, but a '*', against a rune. -/
theorem one_any (p r : ByteArray) (x k : Nat) (e : El) (w : World) (hne : p.data.toList ≠ []) (hs : p.size ≤ 400) (hv : Lib.validD p.data.toList = true) (h47 : 47 ∉ p.data.toList) (h42 : p.data.toList.head? ≠ some 42)
    (hel : elL p.data.toList = some (e, k)) (hr : r.data.toList = enc x) (hx : VR x) :
    Calls Tryd.prog 34 #[.string p, .int .i64 0, .string r] w (OnePost e x k w) := by
  obtain ⟨b, t, hp⟩ := List.exists_cons_of_ne_nil hne
  by_cases h63 : p.data.toList.head? = some 63
  · have he : elL p.data.toList = some (.set true [], 1) := by
      unfold elL
      rw [if_neg h42, if_pos h63]
    rw [he] at hel
    simp only [Option.some.injEq, Prod.mk.injEq] at hel
    obtain ⟨rfl, rfl⟩ := hel
    exact one_any_rune p r x w hs h63
  by_cases h92 : p.data.toList.head? = some 92
  · rw [hp] at h92
    simp only [List.head?_cons, Option.some.injEq] at h92
    subst h92
    exact one_esc p r t x k e w hs hv hp hel hr hx
  by_cases h91 : p.data.toList.head? = some 91
  · rw [hp] at h91
    simp only [List.head?_cons, Option.some.injEq] at h91
    subst h91
    exact one_br p r t x k e w hs hv h47 hp hel hr hx
  exact one_plain p r x k e w hne hs hv h42 h63 h91 h92 hel hr hx
end RO
end Go.Proofs.YtkfddnkeoopfbaaDoor
