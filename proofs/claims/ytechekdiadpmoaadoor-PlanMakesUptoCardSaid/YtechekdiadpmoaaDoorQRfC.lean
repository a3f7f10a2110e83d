/- Texts of this seat, put one behind the other: Ref2One Ref2Part Ref2Parts GlobLitE Ref2Match. -/
import Derived.Test.YtechekdiadpmoaaDoorQRfA
import Derived.Test.YtechekdiadpmoaaDoorQGlobFrom
import Derived.Test.YtechekdiadpmoaaDoorQGlobPlain
import Derived.Lib.QuietBelow
import Derived.Deep.RegionWith
import Derived.Deep.RegionHeld3
set_option linter.all false
set_option maxRecDepth 100000
set_option maxHeartbeats 25600000
section
/- The document's answer: one. -/
namespace Go.Proofs.YtechekdiadpmoaaDoor
open Go.RowKit Go.Lib
namespace RO
open GP LitN RG GR

theorem below_drewN {B : Nat} {w w' : World} (h : Below B w w') (n : Nat) : Below B w (w'.drewN n) := ⟨h.os, h.tape, h.output, h.size, fun k hk => h.block k hk⟩
theorem byte_ext {a b : ByteArray} (h : a.data.toList = b.data.toList) : a = b := by
  rw [← Lib.mk_data a, ← Lib.mk_data b, h]
def OnePost (e : El) (x k : Nat) (w : World) (r : Ending) (w' : World) : Prop := r = .returned (.tuple #[.bool (takesL e x), .int .i64 k]) ∧ Below w.heap.size w w'
theorem takes_one (y x : Nat) : takesL (.set false [(y, y)]) x = decide (y = x) := by
  have := in_one x y
  unfold inSp at this
  simp [takesL] at this ⊢
  rw [← Bool.decide_and] at this
  simpa using this
theorem takes_set (neg : Bool) (sp : List Sp) (x : Nat) : takesL (.set neg sp) x = (sp.any (inSp x) != neg) := rfl
/-- The runes of a text, as they lie: the first one. -/
theorem runes_first {t : ByteArray} {y : Nat} {R : List Nat} {xs : List ByteArray} (hv : Lib.validD t.data.toList = true) (hr : runes t.data.toList = y :: R) (hx : xs.map (·.data.toList) = rnL t.data.toList) :
    ∃ x0, xs[0]? = some x0 ∧ x0.data.toList = enc y ∧ 0 < xs.length := by
  rw [rn_valid _ _ (Nat.le_refl _) hv, hr] at hx
  cases xs with
  | nil => simp at hx
  | cons x0 xs =>
    rw [List.map_cons, List.map_cons] at hx
    simp only [List.cons.injEq] at hx
    exact ⟨x0, rfl, hx.1, by simp⟩
theorem vr_first {l : List UInt8} {y : Nat} {R : List Nat} (hv : Lib.validD l = true) (hr : runes l = y :: R) : VR y := runes_vr _ l (Nat.le_refl _) hv y (by rw [hr]; simp)
theorem el_esc {t : List UInt8} {e : El} {k : Nat} (hv : Lib.validD (92 :: t) = true) (h : elL (92 :: t) = some (e, k)) :
    ∃ y R, Lib.validD t = true ∧ runes t = y :: R ∧ e = .set false [(y, y)] ∧ k = (enc y).length + 1 := by
  obtain ⟨x, t2, ht, _, hvt, _, key⟩ := first_rune (l := 92 :: t) (by simp) hv
  have hx : x = 92 := (head_is (b := 92) (by decide) t2).1 (by rw [← ht]; rfl)
  subst hx
  rw [enc_low (by decide), List.singleton_append] at ht
  have ht2 : t = t2 := by simpa using ht
  subst ht2
  unfold elL at h
  rw [if_neg (by simp), if_neg (by simp), if_neg (by simp)] at h
  by_cases h0 : (runeL (92 :: t)).2 = 0
  · rw [if_pos h0] at h; cases h
  · rw [if_neg h0] at h
    have hne : t ≠ [] := by
      rintro rfl
      apply h0
      rfl
    obtain ⟨y, s, rfl, hd2, hvs, hne3, key2⟩ := first_rune hne hvt
    have hr : runeL (92 :: (enc y ++ s)) = (y, (enc y).length + 1) := by
      unfold runeL
      rw [if_pos (show (92 :: (enc y ++ s)).head? = some 92 from rfl), List.tail_cons]
      have e : decL (enc y ++ s) = (y, (enc y).length) := by
        unfold decL
        rw [if_neg hne, hd2]
      rw [e]
      have hl : 0 < (enc y).length := List.length_pos_iff.2 hne3
      simp only [if_pos hl]
    rw [hr] at h
    simp only [Option.some.injEq, Prod.mk.injEq] at h
    exact ⟨y, runes s, hvt, (key2 s hvs).2.1, h.1.symm, h.2.symm⟩
theorem el_plain {l : List UInt8} {e : El} {k : Nat} (hne : l ≠ []) (hv : Lib.validD l = true) (h42 : l.head? ≠ some 42) (h63 : l.head? ≠ some 63) (h91 : l.head? ≠ some 91) (h92 : l.head? ≠ some 92) (h : elL l = some (e, k)) :
    ∃ y R, runes l = y :: R ∧ e = .set false [(y, y)] ∧ k = (enc y).length := by
  obtain ⟨y, s, rfl, hd, hvs, _, key⟩ := first_rune hne hv
  unfold elL at h
  rw [if_neg h42, if_neg h63, if_neg h91] at h
  have hr : runeL (enc y ++ s) = (y, (enc y).length) := by
    unfold runeL
    rw [if_neg h92]
    unfold decL
    rw [if_neg hne, hd]
  rw [hr] at h
  split at h
  · cases h
  · simp only [Option.some.injEq, Prod.mk.injEq] at h
    exact ⟨y, runes s, (key s hvs).2.1, h.1.symm, h.2.symm⟩
theorem inner_ne {v inner rest : List UInt8} {o : List Sp × List UInt8} (e1 : v = inner ++ rest) (e2 : rest.head? = some 93) (hb : brR v [] = some o) : inner ≠ [] := by
  rintro rfl
  rw [List.nil_append] at e1
  subst e1
  rw [brR_end e2, if_pos rfl] at hb
  cases hb
/-- Brackets: where they end, what stands in them, and whether it is told with a '!'. -/
theorem el_br {u : List UInt8} {e : El} {k : Nat} (hv : Lib.validD (91 :: u) = true) (h47 : 47 ∉ u) (h : elL (91 :: u) = some (e, k)) :
    ∃ (neg : Bool) (inner rest : List UInt8) (sp : List Sp), rest.head? = some 93 ∧ clL (91 :: u) 0 = some (k - 1) ∧ 1 ≤ k ∧ u = (if neg then [33] else []) ++ inner ++ rest ∧ k = 2 + (if neg then 1 else 0) + inner.length ∧ (neg = false → inner.head? ≠ some 33) ∧ inner ≠ [] ∧
      Lib.validD inner = true ∧ okN (runes inner) = true ∧ e = .set neg sp ∧ ∀ r, hdN (hlN (runes inner)) r = sp.any (inSp r) := by
  have hcl := clL_br (l := 91 :: u) (u := u) (z := []) (a := 0) (.inl rfl) h47 (by simp)
  unfold elL at h
  rw [if_neg (by simp), if_neg (by simp), if_pos (by simp)] at h
  rw [h] at hcl
  simp only [Nat.zero_add] at hcl
  obtain ⟨x, t2, ht, _, hvt, _, _⟩ := first_rune (l := 91 :: u) (by simp) hv
  have hx : x = 91 := (head_is (b := 91) (by decide) t2).1 (by rw [← ht]; rfl)
  subst hx
  rw [enc_low (by decide), List.singleton_append] at ht
  have ht2 : u = t2 := by simpa using ht
  subst ht2
  unfold brL at h
  cases hb : brR (brIn (91 :: u)) [] with
  | none => rw [hb] at h; cases h
  | some q =>
    obtain ⟨sp, rest⟩ := q
    rw [hb] at h
    simp only [Option.some.injEq, Prod.mk.injEq] at h
    obtain ⟨he, hk⟩ := h
    by_cases h33 : u.head? = some 33
    · obtain ⟨v, rfl⟩ : ∃ v, u = 33 :: v := by
        cases u with
        | nil => simp at h33
        | cons y v => simp only [List.head?_cons, Option.some.injEq] at h33; subst h33; exact ⟨v, rfl⟩
      have hin : brIn (91 :: 33 :: v) = v := rfl
      rw [hin] at hb
      obtain ⟨x2, t3, ht3, _, hvv, _, _⟩ := first_rune (l := 33 :: v) (by simp) hvt
      have hx2 : x2 = 33 := (head_is (b := 33) (by decide) t3).1 (by rw [← ht3]; rfl)
      subst hx2
      rw [enc_low (by decide), List.singleton_append] at ht3
      have ht4 : v = t3 := by simpa using ht3
      subst ht4
      obtain ⟨inner, tl, e1, e2, e3, e4, e5, e6⟩ := br_holds _ v [] sp rest (Nat.le_refl _) hvv hb
      rw [List.nil_append] at e4
      subst e4
      have hlen := congrArg List.length e1
      rw [List.length_append] at hlen
      simp only [List.length_cons] at hk
      exact ⟨true, inner, rest, sp, e2, hcl, by omega, by rw [e1]; simp, by simp; omega, (fun h => by cases h), inner_ne e1 e2 hb, e3, e5, by rw [← he]; rfl, e6⟩
    · have hin : brIn (91 :: u) = u := by
        unfold brIn
        rw [List.tail_cons, if_neg h33]
      rw [hin] at hb
      obtain ⟨inner, tl, e1, e2, e3, e4, e5, e6⟩ := br_holds _ u [] sp rest (Nat.le_refl _) hvt hb
      rw [List.nil_append] at e4
      subst e4
      have hlen := congrArg List.length e1
      rw [List.length_append] at hlen
      simp only [List.length_cons] at hk
      refine ⟨false, inner, rest, sp, e2, hcl, by omega, by rw [e1]; simp, by simp; omega, fun _ h => h33 ?_, inner_ne e1 e2 hb, e3, e5, ?_, e6⟩
      · rw [e1]
        cases inner with
        | nil => simp at h
        | cons z q => simpa using h
      · rw [← he, List.tail_cons]
        have : (u.head? == some 33) = false := by simpa using h33
        rw [this]
theorem enc_four (y : Nat) : (enc y).length ≤ 4 := by
  unfold enc Lib.encodeRune Lib.encodeRuneZ
  repeat' split
  all_goals simp
theorem head_byte {p : ByteArray} {b : UInt8} {t : List UInt8} (h : p.data.toList = b :: t) : ∃ hp : 0 < p.size, p[0]'hp = b := (cons_of h).2
set_option maxRecDepth 100000 in
set_option maxHeartbeats 3200000 in
theorem one_esc (p r : ByteArray) (t : List UInt8) (x k : Nat) (e : El) (w : World) (hs : p.size ≤ 400) (hv : Lib.validD p.data.toList = true) (hp : p.data.toList = 92 :: t) (hel : elL p.data.toList = some (e, k)) (hr : r.data.toList = enc x) (hx : VR x) :
    Calls Tryd.prog 79 #[.string p, .int .i64 0, .string r] w (OnePost e x k w) := by
  rw [hp] at hv hel
  obtain ⟨y, R, hvt, hry, rfl, rfl⟩ := el_esc hv hel
  obtain ⟨hp0, hb⟩ := head_byte hp
  have hz : (0 : Int) < p.size := by omega
  have hz1 : (1 : Int) ≤ p.size := by omega
  have e63 : ((((p[0]).toNat : Nat) : Int) == 63) = false := by rw [hb]; rfl
  have e92 : ((((p[0]).toNat : Nat) : Int) == 92) = true := by rw [hb]; rfl
  have hd : (p.extract 1 p.size).data.toList = t := by rw [drop_data, hp]; rfl
  have cR := runes_any (p.extract 1 p.size) w (by rw [ByteArray.size_extract]; omega)
  have HD := Lib.hid hd
  have HR := Lib.hid hr
  have hvy := vr_first hvt hry
  have HVT := Lib.hid hvt
  have HRY := Lib.hid hry
  have HT := Lib.hid (takes_one y x)
  clear hd hb hp hv hel hr hvt hry
  go_enter Tryd.func79, Tryd.ntmps79
  go_wp2_with fail
  refine cR.mono ?_
  rintro e' w1 ⟨ao, cx, xs, rfl, _, _, _, hxe, _, hX, hW⟩
  obtain ⟨x0, h0, h0d, hxl⟩ := runes_first (by rw [HD.out]; exact HVT.out) (by rw [HD.out]; exact HRY.out) hxe
  obtain ⟨g, o, rfl, hXN⟩ := hX hxl
  have c0 := hXN.2 0 x0 h0
  rw [Nat.add_zero] at c0
  have hxlz : (0 : Int) < xs.length := by omega
  have heq := text_eq h0d HR.out hvy hx
  have hsz : x0.size = (enc y).length := by rw [Lib.size_eq, h0d]
  have h4 : (enc y).length ≤ 4 := enc_four y
  have HW := Lib.hid hW
  clear hxe hX hXN h0 h0d hW cR
  go_wp2_with fail
  go_quiet (fail)
  go_wp2_with fail
  go_ret2
  exact ⟨by rw [HT.out]; go_num, below_drewN HW.out _⟩
set_option maxRecDepth 100000 in
set_option maxHeartbeats 3200000 in
theorem one_any_rune (p r : ByteArray) (x : Nat) (w : World) (hs : p.size ≤ 400) (hp : p.data.toList.head? = some 63) :
    Calls Tryd.prog 79 #[.string p, .int .i64 0, .string r] w (OnePost (.set true []) x 1 w) := by
  obtain ⟨t, hp⟩ : ∃ t, p.data.toList = 63 :: t := by
    cases h : p.data.toList with
    | nil => rw [h] at hp; cases hp
    | cons y t => rw [h] at hp; simp only [List.head?_cons, Option.some.injEq] at hp; subst hp; exact ⟨t, rfl⟩
  obtain ⟨hp0, hb⟩ := head_byte hp
  have hz : (0 : Int) < p.size := by omega
  have e63 : ((((p[0]).toNat : Nat) : Int) == 63) = true := by rw [hb]; rfl
  clear hb hp
  go_enter Tryd.func79, Tryd.ntmps79
  go_wp2_with fail
  go_ret2
  exact ⟨rfl, Below.refl _ _⟩
set_option maxRecDepth 100000 in
set_option maxHeartbeats 3200000 in
theorem one_plain (p r : ByteArray) (x k : Nat) (e : El) (w : World) (hne : p.data.toList ≠ []) (hs : p.size ≤ 400) (hv : Lib.validD p.data.toList = true) (h42 : p.data.toList.head? ≠ some 42) (h63 : p.data.toList.head? ≠ some 63) (h91 : p.data.toList.head? ≠ some 91) (h92 : p.data.toList.head? ≠ some 92)
    (hel : elL p.data.toList = some (e, k)) (hr : r.data.toList = enc x) (hx : VR x) :
    Calls Tryd.prog 79 #[.string p, .int .i64 0, .string r] w (OnePost e x k w) := by
  obtain ⟨y, R, hry, rfl, rfl⟩ := el_plain hne hv h42 h63 h91 h92 hel
  obtain ⟨b, t, hp⟩ := List.exists_cons_of_ne_nil hne
  rw [hp] at h63 h91 h92
  simp only [List.head?_cons, ne_eq, Option.some.injEq] at h63 h91 h92
  obtain ⟨hp0, hb⟩ := head_byte hp
  have hz : (0 : Int) < p.size := by omega
  have e63 : ((((p[0]).toNat : Nat) : Int) == 63) = false := by rw [hb]; exact GR.byte_no h63
  have e92 : ((((p[0]).toNat : Nat) : Int) == 92) = false := by rw [hb]; exact GR.byte_no h92
  have e91 : ((((p[0]).toNat : Nat) : Int) == 91) = false := by rw [hb]; exact GR.byte_no h91
  have hd : (p.extract 0 p.size).data.toList = p.data.toList := by rw [drop_data]; rfl
  have hpe : p.extract 0 p.size = p := byte_ext hd
  have cR := runes_any p w (by omega)
  have hvy := vr_first hv hry
  have HV := Lib.hid hv
  have HRY := Lib.hid hry
  have HR := Lib.hid hr
  have HT := Lib.hid (takes_one y x)
  have HPE := Lib.hid hpe
  clear hd hb hp hv hel hr hry h63 h91 h92 h42 hne hpe
  go_enter Tryd.func79, Tryd.ntmps79
  go_wp2_with fail
  try rw [HPE.out]
  refine cR.mono ?_
  rintro e' w1 ⟨ao, cx, xs, rfl, _, _, _, hxe, _, hX, hW⟩
  obtain ⟨x0, h0, h0d, hxl⟩ := runes_first HV.out HRY.out hxe
  obtain ⟨g, o, rfl, hXN⟩ := hX hxl
  have c0 := hXN.2 0 x0 h0
  rw [Nat.add_zero] at c0
  have hxlz : (0 : Int) < xs.length := by omega
  have heq := text_eq h0d HR.out hvy hx
  have hsz : x0.size = (enc y).length := by rw [Lib.size_eq, h0d]
  have h4 : (enc y).length ≤ 4 := enc_four y
  have HW := Lib.hid hW
  clear hxe hX hXN h0 h0d hW cR
  go_wp2_with fail
  go_quiet (fail)
  go_wp2_with fail
  go_ret2
  exact ⟨by rw [HT.out]; go_num, below_drewN HW.out _⟩
set_option maxRecDepth 100000 in
set_option maxHeartbeats 3200000 in
theorem one_br (p r : ByteArray) (u : List UInt8) (x k : Nat) (e : El) (w : World) (hs : p.size ≤ 400) (hv : Lib.validD p.data.toList = true) (h47 : 47 ∉ p.data.toList) (hp : p.data.toList = 91 :: u)
    (hel : elL p.data.toList = some (e, k)) (hr : r.data.toList = enc x) (hx : VR x) :
    Calls Tryd.prog 79 #[.string p, .int .i64 0, .string r] w (OnePost e x k w) := by
  rw [hp] at hv h47 hel
  obtain ⟨neg, inner, rest, sp, _, hcl, hk1, hu, hk, hn33, hine, hvi, hoki, rfl, hhd⟩ := el_br hv (fun h => h47 (by simp [h])) hel
  obtain ⟨hp0, hb⟩ := head_byte hp
  have hz : (0 : Int) < p.size := by omega
  have e63 : ((((p[0]).toNat : Nat) : Int) == 63) = false := by rw [hb]; rfl
  have e92 : ((((p[0]).toNat : Nat) : Int) == 92) = false := by rw [hb]; rfl
  have e91 : ((((p[0]).toNat : Nat) : Int) == 91) = true := by rw [hb]; rfl
  have cC := closing_any p 0 w (by omega) hs
  rw [hp, hcl] at cC
  have hsz : p.size = 1 + u.length := by rw [Lib.size_eq, hp, List.length_cons]; omega
  have hul := congrArg List.length hu
  have hT := takes_set neg sp x
  rw [← hhd x] at hT
  have HT := Lib.hid hT
  obtain ⟨j, rfl⟩ : ∃ j, k = j + 2 := ⟨k - 2, by cases neg <;> simp at hk <;> omega⟩
  have ek : j + 2 - 1 = j + 1 := by omega
  have ej : clI (some (j + 1)) = (j : Int) + 1 := by
    show ((j + 1 : Nat) : Int) = _
    omega
  unfold ClPost at cC
  rw [ek, ej] at cC
  cases neg
  · have hk2 : inner.length = j := by simp at hk; omega
    have hd : (p.extract 1 (j + 1)).data.toList = inner := by
      rw [Lib.extract_data, hp, hu, ← hk2]
      simp
    have hle : j + 1 ≤ p.size := by simp at hul; omega
    have hlez : (j : Int) + 1 ≤ p.size := by omega
    have h1z : (1 : Int) ≤ (j : Int) + 1 := by omega
    have hsz2 : (p.extract 1 (j + 1)).size = j := by rw [Lib.size_eq, hd, hk2]
    have hj0 : 0 < j := by rw [← hk2]; exact List.length_pos_iff.2 hine
    have hj0z : (0 : Int) < j := by omega
    have cH := fun W => holds_any (p.extract 1 (j + 1)) r x W (by omega) (by rw [hd]; exact hvi) (by rw [hd]; exact hoki) hr hx
    rw [hd] at cH
    have hj : j ≤ 400 := by omega
    have hlt0 : 0 < (p.extract 1 (j + 1)).size := by omega
    have hb33 : (((((p.extract 1 (j + 1))[0]'hlt0).toNat : Nat) : Int) == 33) = false := by
      obtain ⟨y, q, hq⟩ := List.exists_cons_of_ne_nil hine
      obtain ⟨hp1, hy⟩ := head_byte (hd.trans hq)
      rw [hy]
      have hy33 : y ≠ 33 := by
        rintro rfl
        exact hn33 rfl (by rw [hq]; rfl)
      exact GR.byte_no hy33
    clear hr hv h47 hp hel hu hul hb hhd hT hcl hk hsz hd hn33 hine
    go_enter Tryd.func79, Tryd.ntmps79
    go_wp2_with fail
    refine cC.mono ?_
    rintro e w1 ⟨rfl, rfl⟩
    go_wp2_with fail
    refine (cH _).mono ?_
    rintro e w1 ⟨rfl, hb⟩
    have HB := Lib.hid hb
    clear hb
    go_wp2_with fail
    go_ret2
    exact ⟨by rw [HT.out]; simp; omega, HB.out⟩
  · have hk2 : inner.length + 1 = j := by simp at hk; omega
    have hd : (p.extract 1 (j + 1)).data.toList = 33 :: inner := by
      rw [Lib.extract_data, hp, hu, ← hk2]
      simp
    have hle : j + 1 ≤ p.size := by simp at hul; omega
    have hlez : (j : Int) + 1 ≤ p.size := by omega
    have h1z : (1 : Int) ≤ (j : Int) + 1 := by omega
    have hsz2 : (p.extract 1 (j + 1)).size = j := by rw [Lib.size_eq, hd, List.length_cons, hk2]
    have hj0 : 1 ≤ j := by omega
    have hj0z : (1 : Int) ≤ j := by omega
    have hj0y : (0 : Int) < j := by omega
    have hd2 : ((p.extract 1 (j + 1)).extract 1 j).data.toList = inner := by
      rw [Lib.extract_data, hd, ← hk2]
      simp
    have cH := fun W => holds_any ((p.extract 1 (j + 1)).extract 1 j) r x W (by rw [ByteArray.size_extract]; omega) (by rw [hd2]; exact hvi) (by rw [hd2]; exact hoki) hr hx
    rw [hd2] at cH
    have hj : j ≤ 400 := by omega
    have hlt0 : 0 < (p.extract 1 (j + 1)).size := by omega
    have hb33 : (((((p.extract 1 (j + 1))[0]'hlt0).toNat : Nat) : Int) == 33) = true := by
      obtain ⟨hp1, hy⟩ := head_byte hd
      rw [hy]
      rfl
    clear hr hv h47 hp hel hu hul hb hhd hT hcl hk hsz hd hn33 hine hd2
    go_enter Tryd.func79, Tryd.ntmps79
    go_wp2_with fail
    refine cC.mono ?_
    rintro e w1 ⟨rfl, rfl⟩
    go_wp2_with fail
    refine (cH _).mono ?_
    rintro e w1 ⟨rfl, hb⟩
    have HB := Lib.hid hb
    clear hb
    go_wp2_with fail
    go_ret2
    exact ⟨by rw [HT.out]; simp; omega, HB.out⟩
/-- One element of a valid part, but a '*', against a rune. -/
theorem one_any (p r : ByteArray) (x k : Nat) (e : El) (w : World) (hne : p.data.toList ≠ []) (hs : p.size ≤ 400) (hv : Lib.validD p.data.toList = true) (h47 : 47 ∉ p.data.toList) (h42 : p.data.toList.head? ≠ some 42)
    (hel : elL p.data.toList = some (e, k)) (hr : r.data.toList = enc x) (hx : VR x) :
    Calls Tryd.prog 79 #[.string p, .int .i64 0, .string r] w (OnePost e x k w) := by
  obtain ⟨b, t, hp⟩ := List.exists_cons_of_ne_nil hne
  by_cases h63 : p.data.toList.head? = some 63
  · have he : elL p.data.toList = some (.set true [], 1) := by
      unfold elL
      rw [if_neg h42, if_pos h63]
    rw [he] at hel
    simp only [Option.some.injEq, Prod.mk.injEq] at hel
    obtain ⟨rfl, rfl⟩ := hel
    exact one_any_rune p r x w hs h63
  by_cases h92 : p.data.toList.head? = some 92
  · rw [hp] at h92
    simp only [List.head?_cons, Option.some.injEq] at h92
    subst h92
    exact one_esc p r t x k e w hs hv hp hel hr hx
  by_cases h91 : p.data.toList.head? = some 91
  · rw [hp] at h91
    simp only [List.head?_cons, Option.some.injEq] at h91
    subst h91
    exact one_br p r t x k e w hs hv h47 hp hel hr hx
  exact one_plain p r x k e w hne hs hv h42 h63 h91 h92 hel hr hx
end RO
end Go.Proofs.YtechekdiadpmoaaDoor
end
section
/- The document's answer: part. -/
namespace Go.Proofs.YtechekdiadpmoaaDoor
open Go.RowKit Go.Lib
namespace RO
open GP LitN RG GR GH

/-- A text read as elements, one behind the other. -/
inductive PtIs : List UInt8 → List El → Prop
  | nil : PtIs [] []
  | cons {l : List UInt8} {e : El} {k : Nat} {els : List El} (hne : l ≠ []) (hel : elL l = some (e, k)) (h : PtIs (l.drop k) els) : PtIs l (e :: els)
theorem pt_is : ∀ (n : Nat) (l : List UInt8) (a : Nat) (acc r : List El), l.length ≤ n → ptR l a acc = .ok r → ∃ els, r = acc ++ els ∧ PtIs l els
  | 0, l, a, acc, r, h, hp => by
    have : l = [] := List.eq_nil_of_length_eq_zero (by omega)
    subst this
    rw [ptR_nil] at hp
    cases hp
    exact ⟨[], by simp, .nil⟩
  | n + 1, l, a, acc, r, h, hp => by
    by_cases hne : l = []
    · subst hne
      rw [ptR_nil] at hp
      cases hp
      exact ⟨[], by simp, .nil⟩
    · rw [ptR_step hne] at hp
      cases he : elL l with
      | none => rw [he] at hp; cases hp
      | some q =>
        obtain ⟨e, k⟩ := q
        rw [he] at hp
        have hk := elL_le hne he
        obtain ⟨els, h1, h2⟩ := pt_is n (l.drop k) _ _ r (by rw [List.length_drop]; omega) hp
        exact ⟨e :: els, by rw [h1]; simp, .cons hne he h2⟩
theorem add_off (g o k : Nat) : (⟨g, o, none⟩ : Addr).add k = ⟨g, o + k, none⟩ := by unfold Addr.add; split <;> simp_all
theorem el_star {l : List UInt8} {e : El} {k : Nat} (hel : elL l = some (e, k)) (h : l.head? = some 42) : e = .star ∧ k = 1 := by
  unfold elL at hel
  rw [if_pos h] at hel
  simp only [Option.some.injEq, Prod.mk.injEq] at hel
  exact ⟨hel.1.symm, hel.2.symm⟩
theorem el_set {l : List UInt8} {e : El} {k : Nat} (hel : elL l = some (e, k)) (h : l.head? ≠ some 42) : ∃ neg sp, e = .set neg sp := by
  unfold elL at hel
  rw [if_neg h] at hel
  split at hel
  · simp only [Option.some.injEq, Prod.mk.injEq] at hel
    exact ⟨_, _, hel.1.symm⟩
  · split at hel
    · unfold brL at hel
      split at hel
      · cases hel
      · simp only [Option.some.injEq, Prod.mk.injEq] at hel
        exact ⟨_, _, hel.1.symm⟩
    · split at hel
      · cases hel
      · simp only [Option.some.injEq, Prod.mk.injEq] at hel
        exact ⟨_, _, hel.1.symm⟩
/-- What follows an element of a valid text is valid. -/
theorem el_valid {l : List UInt8} {e : El} {k : Nat} (hne : l ≠ []) (hv : Lib.validD l = true) (h47 : 47 ∉ l) (hel : elL l = some (e, k)) : Lib.validD (l.drop k) = true := by
  have byte (b : Nat) (hb : b < 128) (h : l.head? = some (UInt8.ofNat b)) : Lib.validD (l.drop 1) = true := by
    obtain ⟨x, t, rfl, hd, hvt, hne2, key⟩ := first_rune hne hv
    have hx : x = b := (head_is hb t).1 h
    subst hx
    rw [enc_low hb]
    exact hvt
  by_cases h42 : l.head? = some 42
  · rw [(el_star hel h42).2]
    exact byte 42 (by decide) h42
  by_cases h63 : l.head? = some 63
  · have he : elL l = some (.set true [], 1) := by
      unfold elL
      rw [if_neg h42, if_pos h63]
    rw [he] at hel
    simp only [Option.some.injEq, Prod.mk.injEq] at hel
    rw [← hel.2]
    exact byte 63 (by decide) h63
  by_cases h91 : l.head? = some 91
  · obtain ⟨u, rfl⟩ : ∃ u, l = 91 :: u := by
      cases l with
      | nil => cases h91
      | cons y u => simp only [List.head?_cons, Option.some.injEq] at h91; subst h91; exact ⟨u, rfl⟩
    have hvu := byte 91 (by decide) h91
    obtain ⟨neg, inner, rest, sp, h93, _, hk1, hu, hk, _, _, hvi, _, _, _⟩ := el_br hv (fun h => h47 (by simp [h])) hel
    obtain ⟨z, hz⟩ : ∃ z, rest = 93 :: z := by
      cases rest with
      | nil => cases h93
      | cons y z => simp only [List.head?_cons, Option.some.injEq] at h93; subst h93; exact ⟨z, rfl⟩
    have e1 : (91 :: u).drop k = z := by
      rw [hu, hz, hk]
      cases neg
      · simp only [Bool.false_eq_true, if_false, List.nil_append, Nat.add_zero]
        rw [show 2 + inner.length = (inner.length + 1) + 1 by omega, List.drop_succ_cons, List.drop_append, List.drop_of_length_le (by omega), List.nil_append, show inner.length + 1 - inner.length = 1 by omega]
        rfl
      · simp only [if_true, List.singleton_append, List.cons_append, List.nil_append]
        rw [show 2 + 1 + inner.length = (inner.length + 1) + 1 + 1 by omega, List.drop_succ_cons, List.drop_succ_cons, List.drop_append, List.drop_of_length_le (by omega), List.nil_append, show inner.length + 1 - inner.length = 1 by omega]
        rfl
    rw [e1]
    have hv2 : Lib.validD (inner ++ 93 :: z) = true := by
      cases neg
      · rw [hu, hz] at hvu
        simpa using hvu
      · rw [hu, hz] at hvu
        simp only [if_true, List.singleton_append, List.cons_append, List.drop_succ_cons, List.drop_zero] at hvu
        obtain ⟨x, t, ht, _, hvt, _, _⟩ := first_rune (l := 33 :: (inner ++ 93 :: z)) (by simp) hvu
        have hx : x = 33 := (head_is (b := 33) (by decide) t).1 (by rw [← ht]; rfl)
        subst hx
        rw [enc_low (by decide), List.singleton_append] at ht
        have ht2 : inner ++ 93 :: z = t := by simpa using ht
        rw [ht2]
        exact hvt
    rw [valid_app _ inner _ (Nat.le_refl _) hvi] at hv2
    obtain ⟨x, t, ht, _, hvt, _, _⟩ := first_rune (l := 93 :: z) (by simp) hv2
    have hx : x = 93 := (head_is (b := 93) (by decide) t).1 (by rw [← ht]; rfl)
    subst hx
    rw [enc_low (by decide), List.singleton_append] at ht
    have ht2 : z = t := by simpa using ht
    rw [ht2]
    exact hvt
  · unfold elL at hel
    rw [if_neg h42, if_neg h63, if_neg h91] at hel
    split at hel
    · cases hel
    · rename_i h0
      simp only [Option.some.injEq, Prod.mk.injEq] at hel
      obtain ⟨c, x, v1, rfl, hr, hv1, _, _⟩ := read_rune hne hv h0
      rw [← hel.2, hr, List.drop_left]
      exact hv1
def PartPost (b : Bool) (W : World) (e : Ending) (w' : World) : Prop := e = .returned (.bool b) ∧ Below W.heap.size W w'
def PartAt (l : List UInt8) (els : List El) : Prop := ∀ (p : ByteArray) (ao : Option Addr) (c : Nat) (xs : List ByteArray) (rs : List Nat) (W : World), p.data.toList = l → p.size ≤ 400 → EncOf xs rs → (∀ y ∈ rs, VR y) → xs.length ≤ 400 → xs.length ≤ c → c ≤ maxLen → (ao = none → xs = [] ∧ c = 0) → StrsAt W ao xs →
  Calls Tryd.prog 59 #[.string p, .slice ao xs.length c] W (PartPost (fit els rs) W)
theorem part_nil : PartAt [] [] := by
  intro p ao c xs rs W hp hs hx hv hl hc hcm hn hst
  have hpe := (empty_of hp).1
  have hlen := hx.len
  have hf : (((xs.length : Nat) : Int) == 0) = fit [] rs := by
    rw [hlen]
    cases rs with
    | nil => rfl
    | cons y r => rfl
  have HF := Lib.hid hf
  clear hp hx hv hst hlen hf hn
  go_enter Tryd.func59, Tryd.ntmps59
  go_wp2_with fail
  go_ret
  exact ⟨by rw [← HF.out]; rfl, Below.refl _ _⟩
set_option maxRecDepth 100000 in
set_option maxHeartbeats 6400000 in
theorem part_star {l : List UInt8} {els : List El} (hne : l ≠ []) (h42 : l.head? = some 42) (ih : PartAt (l.drop 1) els) : PartAt l (.star :: els) := by
  intro p ao c xs rs W hp hs hx hv hl hc hcm hn hst
  obtain ⟨b, t, hbt⟩ := List.exists_cons_of_ne_nil hne
  obtain ⟨hpe, hp0, hb⟩ := cons_of (hp.trans hbt)
  have hb42 : ((((p[0]).toNat : Nat) : Int) == 42) = true := by
    rw [hb]
    rw [hbt] at h42
    simp only [List.head?_cons, Option.some.injEq] at h42
    rw [h42]
    rfl
  have hz : (0 : Int) < p.size := by omega
  have h1z : (1 : Int) ≤ p.size := by omega
  have hd : (p.extract 1 p.size).data.toList = l.drop 1 := by rw [drop_data, hp]
  have hlen := hx.len
  have cP := fun (j : Nat) (ao' : Option Addr) (c' : Nat) (W' : World) (hc' : (xs.drop j).length ≤ c') (hcm' : c' ≤ maxLen) (hn' : ao' = none → xs.drop j = [] ∧ c' = 0) (hst' : StrsAt W' ao' (xs.drop j)) =>
    ih (p.extract 1 p.size) ao' c' (xs.drop j) (rs.drop j) W' hd (by rw [ByteArray.size_extract]; omega) (by unfold EncOf at hx ⊢; rw [List.map_drop, hx, List.map_drop]) (fun y hy => hv y (List.mem_of_mem_drop hy)) (by rw [List.length_drop]; omega) hc' hcm' hn' hst'
  have HLen := Lib.hid hlen
  obtain ⟨R, hR⟩ : ∃ R, fit (.star :: els) rs = R := ⟨_, rfl⟩
  rw [hR]
  have HR : Hid (anyTail (fit els) rs = R) := Lib.hid hR
  rcases ao with _ | ad
  · obtain ⟨rfl, rfl⟩ := hn rfl
    have hrs : rs = [] := List.eq_nil_of_length_eq_zero (by rw [← hlen]; rfl)
    subst hrs
    have cQ : ∀ W', Calls Tryd.prog 59 #[.string (p.extract 1 p.size), .slice none 0 0] W' (PartPost R W') := fun W' => by
      have h := cP 0 none 0 W' (Nat.le_refl _) (by simp) (fun _ => ⟨rfl, rfl⟩) (fun h => by simp at h)
      rw [show fit els (([] : List Nat).drop 0) = R from HR.out] at h
      exact h
    unfold maxLen at hcm
    clear hp hx hst hn hlen hR hb hbt hd hv cP
    go_enter Tryd.func59, Tryd.ntmps59
    go_wp2_with fail
    go_loopw [5] (fun s5 wr => ∃ k : Nat, k ≤ 1 ∧ s5 = .int .i64 k ∧ (k = 1 → R = false) ∧ Below W.heap.size W wr) (fun s5 _ => 1 - (Go.RowKit.intOf s5).toNat)
    case atStart => exact ⟨0, by omega, rfl, (fun h => by omega), Below.refl _ _⟩
    case round =>
      obtain ⟨k, hk, rfl, hor, hb⟩ := hrel
      have HB := Lib.hid hb
      clear hb
      by_cases hk0 : k = 0
      · subst hk0
        clear hor
        cases R
        · have cX : ∀ d os, Calls Tryd.prog 59 #[.string (p.extract 1 p.size), .slice none 0 0] (Go.Sort.grow (redrawn wr d) os) fun e w'' => e = .returned (.bool false) ∧ ∃ p : Regrown, w'' = Go.Sort.grow (redrawn wr p.d) p.os := fun d os => Calls.regrown_of (cQ _)
          go_wp2_with fail
          with_reducible refine wp_region_quiet_below (by kernel_rfl) (by kernel_rfl) ?_
          repeat (go_big_quiet_step (first | (go_at_call_of 59 (Value.string (p.extract 1 p.size)); exact cX _ _)))
          refine wpQuiet_nil ?_
          intro _ hw'
          obtain ⟨⟨dq, osq⟩, hw''⟩ := hw'
          subst hw''
          go_wp2_with fail
          go_roundw
          case rel => exact ⟨1, by omega, by go_num, fun _ => by first | rfl | trivial, HB.out.trans ((below_regrown wr dq osq).mono HB.out.size)⟩
          case measure => simp [Go.RowKit.intOf]
        · have cX : ∀ d os, Calls Tryd.prog 59 #[.string (p.extract 1 p.size), .slice none 0 0] (Go.Sort.grow (redrawn wr d) os) fun e w'' => e = .returned (.bool true) ∧ ∃ p : Regrown, w'' = Go.Sort.grow (redrawn wr p.d) p.os := fun d os => Calls.regrown_of (cQ _)
          go_wp2_with fail
          with_reducible refine wp_region_quiet_below (by kernel_rfl) (by kernel_rfl) ?_
          repeat (go_big_quiet_step (first | (go_at_call_of 59 (Value.string (p.extract 1 p.size)); exact cX _ _)))
          refine wpQuiet_nil ?_
          intro _ hw'
          obtain ⟨⟨dq, osq⟩, hw''⟩ := hw'
          subst hw''
          go_wp2_with fail
          go_ret
          exact ⟨rfl, HB.out.trans ((below_regrown wr dq osq).mono HB.out.size)⟩
      · obtain rfl : k = 1 := by omega
        have hRf := hor rfl
        subst hRf
        go_wp2_with fail
        go_ret
        exact ⟨rfl, HB.out⟩
  · have cQ : ∀ (k : Nat) (W' : World), k ≤ xs.length → Below W.heap.size W W' → Calls Tryd.prog 59 #[.string (p.extract 1 p.size), .slice (if c = k then some ad else some (ad.add k)) (xs.length - k) (c - k)] W' (PartPost (fit els (rs.drop k)) W') := fun k W' hk hB => by
      have h := cP k (if c = k then some ad else some (ad.add k)) (c - k) W' (by rw [List.length_drop]; omega) (by omega) (fun h => by split at h <;> cases h) (fun h0 => by
        rw [List.length_drop] at h0
        obtain ⟨g, o, e, hg, hcell⟩ := hst (by omega)
        simp only [Option.some.injEq] at e
        subst e
        refine ⟨g, o + k, by rw [if_neg (by omega), add_off], Nat.lt_of_lt_of_le hg hB.size, fun j x hj => ?_⟩
        rw [List.getElem?_drop] at hj
        have h1 := hcell (k + j) x hj
        rw [← Nat.add_assoc] at h1
        rw [hB.cell (p := ⟨g, o + k + j, none⟩) hg]
        exact h1)
      rw [List.length_drop] at h
      exact h
    unfold maxLen at hcm
    clear hp hx hst hn hlen hR hb hbt hd hv cP
    go_enter Tryd.func59, Tryd.ntmps59
    go_wp2_with fail
    go_loopw [5] (fun s5 wr => ∃ k : Nat, s5 = .int .i64 k ∧ ((k ≤ xs.length ∧ anyTail (fit els) (rs.drop k) = R) ∨ (k = xs.length + 1 ∧ R = false)) ∧ Below W.heap.size W wr) (fun s5 _ => xs.length + 1 - (Go.RowKit.intOf s5).toNat)
    case atStart => exact ⟨0, rfl, .inl ⟨Nat.zero_le _, HR.out⟩, Below.refl _ _⟩
    case round =>
      obtain ⟨k, rfl, hor, hb⟩ := hrel
      have HB := Lib.hid hb
      clear hb
      rcases hor with ⟨hk, hany⟩ | ⟨rfl, rfl⟩
      · have hkz : (k : Int) ≤ xs.length := by omega
        have hnext : (fit els (rs.drop k) = true → R = true) ∧ (fit els (rs.drop k) = false → ((k + 1 ≤ xs.length ∧ anyTail (fit els) (rs.drop (k + 1)) = R) ∨ (k + 1 = xs.length + 1 ∧ R = false))) := by
          by_cases hkl : k < rs.length
          · rw [List.drop_eq_getElem_cons hkl, anyTail, ← List.drop_eq_getElem_cons hkl] at hany
            constructor
            · intro h
              rw [h, Bool.true_or] at hany
              exact hany.symm
            · intro h
              rw [h, Bool.false_or] at hany
              exact .inl ⟨by have := HLen.out; omega, hany⟩
          · have he : rs.drop k = [] := List.drop_of_length_le (by omega)
            rw [he, anyTail] at hany
            rw [he, hany]
            exact ⟨id, fun h => .inr ⟨by have := HLen.out; omega, h⟩⟩
        have cX : ∀ d os, Calls Tryd.prog 59 #[.string (p.extract 1 p.size), .slice (if c = k then some ad else some (ad.add k)) (xs.length - k) (c - k)] (Go.Sort.grow (redrawn wr d) os) fun e w'' => e = .returned (.bool (fit els (rs.drop k))) ∧ ∃ p : Regrown, w'' = Go.Sort.grow (redrawn wr p.d) p.os := fun d os => Calls.regrown_of (cQ k _ hk (HB.out.trans ((below_regrown wr d os).mono HB.out.size)))
        generalize fit els (rs.drop k) = X at hnext cX
        clear hany
        cases X
        · have HNx := Lib.hid (hnext.2 rfl)
          clear hnext
          go_wp2_with fail
          with_reducible refine wp_region_quiet_below (by kernel_rfl) (by kernel_rfl) ?_
          repeat (go_big_quiet_step (first | (go_at_call_of 59 (Value.string (p.extract 1 p.size)); exact cX _ _)))
          refine wpQuiet_nil ?_
          intro _ hw'
          obtain ⟨⟨dq, osq⟩, hw''⟩ := hw'
          subst hw''
          go_wp2_with fail
          go_roundw
          case rel => exact ⟨k + 1, by go_num, HNx.out, HB.out.trans ((below_regrown wr dq osq).mono HB.out.size)⟩
          case measure => simp [Go.RowKit.intOf]; omega
        · have hRt := hnext.1 rfl
          subst hRt
          clear hnext
          go_wp2_with fail
          with_reducible refine wp_region_quiet_below (by kernel_rfl) (by kernel_rfl) ?_
          repeat (go_big_quiet_step (first | (go_at_call_of 59 (Value.string (p.extract 1 p.size)); exact cX _ _)))
          refine wpQuiet_nil ?_
          intro _ hw'
          obtain ⟨⟨dq, osq⟩, hw''⟩ := hw'
          subst hw''
          go_wp2_with fail
          all_goals
            go_ret
            exact ⟨rfl, HB.out.trans ((below_regrown wr dq osq).mono HB.out.size)⟩
      · have hkz : ¬ ((xs.length : Int) + 1) ≤ xs.length := by omega
        go_wp2_with fail
        go_ret
        exact ⟨rfl, HB.out⟩
set_option maxRecDepth 100000 in
set_option maxHeartbeats 6400000 in
theorem part_set {l : List UInt8} {e : El} {k : Nat} {els : List El} (hne : l ≠ []) (hv : Lib.validD l = true) (h47 : 47 ∉ l) (h42 : l.head? ≠ some 42) (hel : elL l = some (e, k)) (ih : PartAt (l.drop k) els) : PartAt l (e :: els) := by
  intro p ao c xs rs W hp hs hx hvx hl hc hcm hn hst
  obtain ⟨b, t, hbt⟩ := List.exists_cons_of_ne_nil hne
  obtain ⟨hpe, hp0, hb⟩ := cons_of (hp.trans hbt)
  have hb42 : ((((p[0]).toNat : Nat) : Int) == 42) = false := by
    rw [hb]
    apply GR.byte_no (c := 42)
    rintro rfl
    rw [hbt] at h42
    exact h42 rfl
  have hz : (0 : Int) < p.size := by omega
  obtain ⟨neg, sp, rfl⟩ := el_set hel h42
  have hk := elL_le hne hel
  rw [← hp, ← Lib.size_eq] at hk
  have hkz : (k : Int) ≤ p.size := by omega
  have hd : (p.extract k p.size).data.toList = l.drop k := by rw [drop_data, hp]
  have hlen := hx.len
  cases hrs : rs with
  | nil =>
    have hx0 : xs.length = 0 := by rw [hlen, hrs]; rfl
    rw [hx0]
    clear hst hn hlen hx hd ih hb hbt
    go_enter Tryd.func59, Tryd.ntmps59
    go_wp2_with fail
    go_ret
    exact ⟨rfl, Below.refl _ _⟩
  | cons y R =>
    have hxl : 0 < xs.length := by rw [hlen, hrs, List.length_cons]; omega
    have hxlz : (0 : Int) < xs.length := by omega
    have hxl1 : (1 : Int) ≤ xs.length := by omega
    have hxn0 : ((xs.length : Int) == 0) = false := beq_eq_false_iff_ne.2 (by omega)
    obtain ⟨x0, h0, h0d⟩ := hx.at (k := 0) (y := y) (by rw [hrs]; rfl)
    obtain ⟨g, o, rfl, hg, hcell⟩ := hst hxl
    have c0 := hcell 0 x0 h0
    rw [Nat.add_zero] at c0
    have cO := one_any p x0 y k (.set neg sp) W (by rw [hp]; exact hne) hs (by rw [hp]; exact hv) (by rw [hp]; exact h47) (by rw [hp]; exact h42) (by rw [hp]; exact hel) h0d (hvx y (by rw [hrs]; simp))
    have cQ : ∀ W', Below W.heap.size W W' → Calls Tryd.prog 59 #[.string (p.extract k p.size), .slice (if c = 1 then some ⟨g, o, none⟩ else some ⟨g, o + 1, none⟩) (xs.length - 1) (c - 1)] W' (PartPost (fit els R) W') := fun W' hB => by
      have h := ih (p.extract k p.size) (if c = 1 then some ⟨g, o, none⟩ else some ⟨g, o + 1, none⟩) (c - 1) (xs.drop 1) R W' hd (by rw [ByteArray.size_extract]; omega) (by unfold EncOf at hx ⊢; rw [List.map_drop, hx, hrs]; rfl) (fun z hz => hvx z (by rw [hrs]; simp [hz])) (by rw [List.length_drop]; omega) (by rw [List.length_drop]; omega) (by omega) (fun h => by split at h <;> cases h) (fun h0 => by
        rw [List.length_drop] at h0
        refine ⟨g, o + 1, by rw [if_neg (by omega)], Nat.lt_of_lt_of_le hg hB.size, fun j x hj => ?_⟩
        rw [List.getElem?_drop] at hj
        have h1 := hcell (1 + j) x hj
        rw [← Nat.add_assoc] at h1
        rw [hB.cell (p := ⟨g, o + 1 + j, none⟩) hg]
        exact h1)
      rw [List.length_drop] at h
      exact h
    have hfit : fit (.set neg sp :: els) (y :: R) = (takesL (.set neg sp) y && fit els R) := rfl
    rw [hfit]
    unfold maxLen at hcm
    clear hst hn hlen hx hd ih hcell h0 hfit hvx hv h47 hel hp hbt hb
    unfold OnePost at cO
    generalize takesL (.set neg sp) y = B1 at cO ⊢
    generalize fit els R = B2 at cQ ⊢
    cases B1
    · go_enter Tryd.func59, Tryd.ntmps59
      go_wp2_with fail
      refine cO.mono ?_
      rintro e w1 ⟨rfl, hb1⟩
      have HB1 := Lib.hid hb1
      clear hb1
      go_wp2_with fail
      with_reducible refine wp_region_quiet_below (by kernel_rfl) (by kernel_rfl) ?_
      repeat (go_big_quiet_step (fail))
      refine wpQuiet_nil ?_
      intro _ hw'
      obtain ⟨⟨dq, osq⟩, hw''⟩ := hw'
      subst hw''
      go_wp2_with fail
      go_ret
      exact ⟨rfl, HB1.out.trans ((below_regrown w1 dq osq).mono HB1.out.size)⟩
    · have cX : ∀ w1 d os, Below W.heap.size W w1 → Calls Tryd.prog 59 #[.string (p.extract k p.size), .slice (if c = 1 then some ⟨g, o, none⟩ else some ⟨g, o + 1, none⟩) (xs.length - 1) (c - 1)] (Go.Sort.grow (redrawn w1 d) os) fun e w'' => e = .returned (.bool B2) ∧ ∃ p : Regrown, w'' = Go.Sort.grow (redrawn w1 p.d) p.os := fun w1 d os hB => Calls.regrown_of (cQ _ (hB.trans ((below_regrown w1 d os).mono hB.size)))
      go_enter Tryd.func59, Tryd.ntmps59
      go_wp2_with fail
      refine cO.mono ?_
      rintro e w1 ⟨rfl, hb1⟩
      have HB1 := Lib.hid hb1
      clear hb1
      go_wp2_with fail
      with_reducible refine wp_region_quiet_below (by kernel_rfl) (by kernel_rfl) ?_
      repeat (go_big_quiet_step (first | (go_at_call_of 59 (Value.string (p.extract k p.size)); exact cX _ _ _ HB1.out)))
      refine wpQuiet_nil ?_
      intro _ hw'
      obtain ⟨⟨dq, osq⟩, hw''⟩ := hw'
      subst hw''
      go_wp2_with fail
      all_goals
        go_ret
        exact ⟨rfl, HB1.out.trans ((below_regrown w1 dq osq).mono HB1.out.size)⟩
theorem part_any {l : List UInt8} {els : List El} (h : PtIs l els) : Lib.validD l = true → 47 ∉ l → PartAt l els := by
  induction h with
  | nil => intro _ _; exact part_nil
  | cons hne hel h ih =>
    intro hv h47
    have ih2 := ih (el_valid hne hv h47 hel) (fun hm => h47 (List.mem_of_mem_drop hm))
    rename_i l e k els
    by_cases h42 : l.head? = some 42
    · obtain ⟨rfl, rfl⟩ := el_star hel h42
      exact part_star hne h42 ih2
    · exact part_set hne hv h47 h42 hel ih2
end RO
end Go.Proofs.YtechekdiadpmoaaDoor
namespace Go.Proofs.YtechekdiadpmoaaDoor
open Go.RowKit Go.Lib
namespace RO
open GP LitN RG GR GH

set_option maxRecDepth 100000 in
set_option maxHeartbeats 12800000 in
theorem parts_no (t0 x0 : ByteArray) (gp op gn on tn xn cp cn : Nat) (W : World) (hb22 : (t0.toList == [42, 42]) = false) (hgp : gp < W.heap.size) (hgn : gn < W.heap.size) (c0 : W.cell? ⟨gp, op, none⟩ = some (.string t0)) (d0 : W.cell? ⟨gn, on, none⟩ = some (.string x0)) (htn : tn ≤ 1000) (hxn : xn ≤ 1000) (hx0 : x0.size ≤ 400)
    (cPt : ∀ (ao : Option Addr) (c : Nat) (rx : List ByteArray) (W' : World), rx.map (·.data.toList) = rnL x0.data.toList → rx.length ≤ c → c ≤ maxLen → (ao = none → rx = [] ∧ c = 0) → StrsAt W' ao rx → Calls Tryd.prog 59 #[.string t0, .slice ao rx.length c] W' (PartPost false W')) :
    Calls Tryd.prog 61 #[.slice (some ⟨gp, op, none⟩) (tn + 1) cp, .slice (some ⟨gn, on, none⟩) (xn + 1) cn] W (PartPost false W) := by
  have cR := fun W' => runes_any x0 W' (by omega)
  have hlz : (0 : Int) < tn + 1 := by omega
  have hl0 : ((tn : Int) + 1 == 0) = false := beq_eq_false_iff_ne.2 (by omega)
  have hnz : (0 : Int) < xn + 1 := by omega
  go_enter Tryd.func61, Tryd.ntmps61
  go_wp2_with fail
  first | (go_region_with (first | (go_at_call 60; refine (cR _).mono ?_; rintro e w2 ⟨ao, cr, rx, rfl, q1, q2, q3, q4, q5, q6, hb⟩; have cPt2 := cPt ao cr rx w2 q4 q1 q3 q2 q6; have k0 := (hb.cell (p := ⟨gp, op, none⟩) hgp).trans c0; have l0 := (hb.cell (p := ⟨gn, on, none⟩) hgn).trans d0; have HB2 := Lib.hid (show Below W.heap.size W w2 from Below.trans (by repeat' (first | exact Below.refl _ _ | refine Below.drew ?_)) hb); clear q1 q2 q3 q4 q5 q6 hb) | (go_at_call 59; refine cPt2.mono ?_; rintro e w3 ⟨rfl, hb⟩; have k1 := (hb.cell (p := ⟨gp, op, none⟩) (Nat.lt_of_lt_of_le hgp HB2.out.size)).trans k0; have l1 := (hb.cell (p := ⟨gn, on, none⟩) (Nat.lt_of_lt_of_le hgn HB2.out.size)).trans l0; have HB3 := Lib.hid (HB2.out.trans (hb.mono HB2.out.size)); clear hb))) | fail
  all_goals
    go_wp2_with fail
    go_ret
    exact ⟨rfl, HB3.out⟩
end RO
end Go.Proofs.YtechekdiadpmoaaDoor
end
section
/- The document's parts over lists, and that they are what the code's matching says, if a part is. -/
namespace Go.Proofs.YtechekdiadpmoaaDoor
open Go.RowKit Go.Lib
namespace RG
open GP
/-- Each part as it is read. -/
inductive Reads : List (List UInt8) → List Pt → Prop
  | nil : Reads [] []
  | cons {t : List UInt8} {p : Pt} {ts : List (List UInt8)} {ps : List Pt} (h : ptL t = .ok p) (r : Reads ts ps) : Reads (t :: ts) (p :: ps)
theorem reads_of : ∀ (ts : List (List UInt8)) (a : Nat) (acc r : List Pt), psR ts a acc = .ok r → ∃ ps, r = acc ++ ps ∧ Reads ts ps
  | [], a, acc, r, h => by
    rw [psR] at h
    cases h
    exact ⟨[], by simp, .nil⟩
  | t :: ts, a, acc, r, h => by
    rw [psR] at h
    cases hp : ptL t with
    | error k => rw [hp] at h; cases h
    | ok p =>
      rw [hp] at h
      obtain ⟨ps, h1, h2⟩ := reads_of ts _ _ _ h
      exact ⟨p :: ps, by rw [h1]; simp, .cons hp h2⟩
/-- The reference's parts, from what it says of one part. -/
def rpL (PT : List UInt8 → List UInt8 → Bool) : List (List UInt8) → List (List UInt8) → Bool
  | [] => fun ns => ns.isEmpty
  | p :: ps => if p = [42, 42] then anyTail (rpL PT ps) else fun ns => match ns with
    | [] => false
    | n :: ns' => PT p n && rpL PT ps ns'
theorem pt_stars {t : List UInt8} (h : ptL t = .ok .stars) : t = [42, 42] := by
  unfold ptL at h
  split at h
  · cases h
  · split at h
    · assumption
    · split at h <;> cases h
theorem pt_one {t : List UInt8} {els : List El} (h : ptL t = .ok (.one els)) : t ≠ [42, 42] := by
  rintro rfl
  unfold ptL at h
  rw [if_neg (by simp), if_pos rfl] at h
  cases h
theorem rp_mat {PT : List UInt8 → List UInt8 → Bool} {ts : List (List UInt8)} {ps : List Pt} (hr : Reads ts ps) (hPT : ∀ t els, t ∈ ts → ptL t = .ok (.one els) → ∀ n, PT t n = fitsL els n) : rpL PT ts = mat ps := by
  induction hr with
  | nil => rfl
  | cons h r ih =>
    rename_i t p ts ps
    have ih2 := ih (fun t els ht => hPT t els (by simp [ht]))
    cases p with
    | stars =>
      rw [rpL, if_pos (pt_stars h), ih2]
      rfl
    | one els =>
      rw [rpL, if_neg (pt_one h), ih2]
      funext ns
      cases ns with
      | nil => rfl
      | cons n ns' =>
        show (PT t n && mat ps ns') = (fitsL els n && mat ps ns')
        rw [hPT t els (by simp) h n]
end RG
end Go.Proofs.YtechekdiadpmoaaDoor
namespace Go.Proofs.YtechekdiadpmoaaDoor
open Go.RowKit Go.Lib
namespace RO
open GP LitN RG GR GH

/-- A row of texts as it is handed on: where it lies, and how much room it has. -/
structure RowAt (W : World) (ao : Option Addr) (c : Nat) (xs : List ByteArray) : Prop where
  len : xs.length ≤ c
  nil : ao = none → xs = [] ∧ c = 0
  at_ : StrsAt W ao xs
def tailOf (ao : Option Addr) (c k : Nat) : Option Addr := match ao with
  | none => none
  | some a => if c = k then some a else some (a.add k)
theorem RowAt.tail {W W' : World} {a : Addr} {c : Nat} {xs : List ByteArray} (h : RowAt W (some a) c xs) (hb : Below W.heap.size W W') (k : Nat) (hk : k ≤ xs.length) : RowAt W' (if c = k then some a else some (a.add k)) (c - k) (xs.drop k) := by
  refine ⟨by have := h.len; rw [List.length_drop]; omega, fun h => (by split at h <;> cases h), fun h0 => ?_⟩
  rw [List.length_drop] at h0
  obtain ⟨g, o, e, hg, hcell⟩ := h.at_ (by omega)
  simp only [Option.some.injEq] at e
  subst e
  have := h.len
  refine ⟨g, o + k, by rw [if_neg (by omega), add_off], Nat.lt_of_lt_of_le hg hb.size, fun j x hj => ?_⟩
  rw [List.getElem?_drop] at hj
  have h1 := hcell (k + j) x hj
  rw [← Nat.add_assoc] at h1
  rw [hb.cell (p := ⟨g, o + k + j, none⟩) hg]
  exact h1
theorem RowAt.below {W W' : World} {ao : Option Addr} {c : Nat} {xs : List ByteArray} (h : RowAt W ao c xs) (hb : Below W.heap.size W W') : RowAt W' ao c xs :=
  ⟨h.len, h.nil, fun h0 => by
    obtain ⟨g, o, e, hg, hcell⟩ := h.at_ h0
    exact ⟨g, o, e, Nat.lt_of_lt_of_le hg hb.size, fun j x hj => by rw [hb.cell (p := ⟨g, o + j, none⟩) hg]; exact hcell j x hj⟩⟩
def PartsAt (tl : List (List UInt8)) (ps : List Pt) : Prop := ∀ (ap an : Option Addr) (cp cn : Nat) (ts xs : List ByteArray) (W : World), ts.map (·.data.toList) = tl → RowAt W ap cp ts → RowAt W an cn xs → ts.length ≤ 1000 → xs.length ≤ 1000 →
  (∀ t ∈ ts, Lib.validD t.data.toList = true ∧ t.size ≤ 400 ∧ 47 ∉ t.data.toList) → (∀ x ∈ xs, Lib.validD x.data.toList = true ∧ x.size ≤ 400) →
  Calls Tryd.prog 61 #[.slice ap ts.length cp, .slice an xs.length cn] W (PartPost (mat ps (xs.map (·.data.toList))) W)
theorem parts_nil : PartsAt [] [] := by
  intro ap an cp cn ts xs W ht hp hn ht4 hx4 _ _
  have h0 : ts = [] := by simpa using ht
  subst h0
  have hf : (((xs.length : Nat) : Int) == 0) = mat [] (xs.map (·.data.toList)) := by
    cases xs with
    | nil => rfl
    | cons y r => rfl
  have HF := Lib.hid hf
  clear ht hp hn hf
  go_enter Tryd.func61, Tryd.ntmps61
  go_wp2_with fail
  go_ret
  exact ⟨by rw [← HF.out]; rfl, Below.refl _ _⟩
set_option maxRecDepth 100000 in
set_option maxHeartbeats 6400000 in
theorem parts_stars {tl : List (List UInt8)} {ps : List Pt} (ih : PartsAt tl ps) : PartsAt ([42, 42] :: tl) (.stars :: ps) := by
  intro ap an cp cn ts xs W ht hp hn ht4 hx4 hvt hvx
  obtain ⟨t0, ts', rfl⟩ : ∃ t0 ts', ts = t0 :: ts' := by
    cases ts with
    | nil => simp at ht
    | cons t0 ts' => exact ⟨t0, ts', rfl⟩
  rw [List.map_cons] at ht
  simp only [List.cons.injEq] at ht
  obtain ⟨ht0, ht'⟩ := ht
  have hb22 : (t0.toList == [42, 42]) = true := by rw [Lib.toList_data, ht0]; rfl
  obtain ⟨gp, op, rfl, hgp, hcp⟩ := hp.at_ (by simp)
  have c0 := hcp 0 t0 rfl
  rw [Nat.add_zero] at c0
  have hlp : (t0 :: ts').length = ts'.length + 1 := rfl
  have hlz : (0 : Int) < ts'.length + 1 := by omega
  have hl1 : (1 : Int) ≤ ts'.length + 1 := by omega
  have hl0 : ((ts'.length : Int) + 1 == 0) = false := beq_eq_false_iff_ne.2 (by omega)
  have hmat : mat (.stars :: ps) (xs.map (·.data.toList)) = anyTail (mat ps) (xs.map (·.data.toList)) := rfl
  rw [hmat, hlp]
  obtain ⟨R, hR⟩ : ∃ R, anyTail (mat ps) (xs.map (·.data.toList)) = R := ⟨_, rfl⟩
  rw [hR]
  have HR := Lib.hid hR
  have HT := Lib.hid ht'
  have HVT : Hid (∀ t ∈ ts', Lib.validD t.data.toList = true ∧ t.size ≤ 400 ∧ 47 ∉ t.data.toList) := Lib.hid fun t h => hvt t (by simp [h])
  have HVX := Lib.hid hvx
  have HPR := Lib.hid hp
  have hcpl := hp.len
  rw [hlp] at hcpl
  have cP := fun (j : Nat) (an' : Option Addr) (c' : Nat) (W' : World) (hB : Below W.heap.size W W') (hn' : RowAt W' an' c' (xs.drop j)) =>
    ih (if cp = 1 then some ⟨gp, op, none⟩ else some ((⟨gp, op, none⟩ : Addr).add 1)) an' (cp - 1) c' ts' (xs.drop j) W' HT.out (by have h := HPR.out.tail hB 1 (by simp); exact h) hn' (by omega) (by rw [List.length_drop]; omega) HVT.out (fun x hx => HVX.out x (List.mem_of_mem_drop hx))
  rw [add_off] at cP
  rcases an with _ | ad
  · obtain ⟨rfl, rfl⟩ := hn.nil rfl
    have cQ : ∀ W', Below W.heap.size W W' → Calls Tryd.prog 61 #[.slice (if cp = 1 then some ⟨gp, op, none⟩ else some ⟨gp, op + 1, none⟩) ts'.length (cp - 1), .slice none 0 0] W' (PartPost R W') := fun W' hB => by
      have h := cP 0 none 0 W' hB (hn.below hB)
      rw [show mat ps ((([] : List ByteArray).drop 0).map (·.data.toList)) = R from HR.out] at h
      exact h
    clear hn hR hp hcp ht' hvt hvx ht0 cP hmat hlp
    go_enter Tryd.func61, Tryd.ntmps61
    go_wp2_with fail
    go_loopw [5] (fun s5 wr => ∃ k : Nat, k ≤ 1 ∧ s5 = .int .i64 k ∧ (k = 1 → R = false) ∧ Below W.heap.size W wr) (fun s5 _ => 1 - (Go.RowKit.intOf s5).toNat)
    case atStart => exact ⟨0, by omega, rfl, (fun h => by omega), Below.refl _ _⟩
    case round =>
      obtain ⟨k, hk, rfl, hor, hb⟩ := hrel
      have HB := Lib.hid hb
      clear hb
      by_cases hk0 : k = 0
      · subst hk0
        clear hor
        have cX : ∀ d os, Calls Tryd.prog 61 #[.slice (if cp = 1 then some ⟨gp, op, none⟩ else some ⟨gp, op + 1, none⟩) ts'.length (cp - 1), .slice none 0 0] (Go.Sort.grow (redrawn wr d) os) fun e w'' => e = .returned (.bool R) ∧ ∃ p : Regrown, w'' = Go.Sort.grow (redrawn wr p.d) p.os := fun d os => Calls.regrown_of (cQ _ (HB.out.trans ((below_regrown wr d os).mono HB.out.size)))
        cases R
        · go_wp2_with fail
          with_reducible refine wp_region_quiet_below (by kernel_rfl) (by kernel_rfl) ?_
          repeat (go_big_quiet_step (first | (go_at_call_of 61 (Value.slice none 0 0); exact cX _ _)))
          refine wpQuiet_nil ?_
          intro _ hw'
          obtain ⟨⟨dq, osq⟩, hw''⟩ := hw'
          subst hw''
          go_wp2_with fail
          all_goals
            go_roundw
            case rel => exact ⟨1, by omega, by go_num, fun _ => by first | rfl | trivial, HB.out.trans ((below_regrown wr dq osq).mono HB.out.size)⟩
            case measure => simp [Go.RowKit.intOf]
        · go_wp2_with fail
          with_reducible refine wp_region_quiet_below (by kernel_rfl) (by kernel_rfl) ?_
          repeat (go_big_quiet_step (first | (go_at_call_of 61 (Value.slice none 0 0); exact cX _ _)))
          refine wpQuiet_nil ?_
          intro _ hw'
          obtain ⟨⟨dq, osq⟩, hw''⟩ := hw'
          subst hw''
          go_wp2_with fail
          all_goals
            go_ret
            exact ⟨rfl, HB.out.trans ((below_regrown wr dq osq).mono HB.out.size)⟩
      · obtain rfl : k = 1 := by omega
        have hRf := hor rfl
        subst hRf
        go_wp2_with fail
        go_ret
        exact ⟨rfl, HB.out⟩
  · have cQ : ∀ (k : Nat) (W' : World), k ≤ xs.length → Below W.heap.size W W' → Calls Tryd.prog 61 #[.slice (if cp = 1 then some ⟨gp, op, none⟩ else some ⟨gp, op + 1, none⟩) ts'.length (cp - 1), .slice (if cn = k then some ad else some (ad.add k)) (xs.length - k) (cn - k)] W' (PartPost (mat ps ((xs.drop k).map (·.data.toList))) W') := fun k W' hk hB => by
      have h := cP k _ _ W' hB (hn.tail hB k hk)
      rw [List.length_drop] at h
      exact h
    have hcnl := hn.len
    clear hn hR hp hcp ht' hvt hvx ht0 cP hmat hlp
    go_enter Tryd.func61, Tryd.ntmps61
    go_wp2_with fail
    go_loopw [5] (fun s5 wr => ∃ k : Nat, s5 = .int .i64 k ∧ ((k ≤ xs.length ∧ anyTail (mat ps) ((xs.drop k).map (·.data.toList)) = R) ∨ (k = xs.length + 1 ∧ R = false)) ∧ Below W.heap.size W wr) (fun s5 _ => xs.length + 1 - (Go.RowKit.intOf s5).toNat)
    case atStart => exact ⟨0, rfl, .inl ⟨Nat.zero_le _, HR.out⟩, Below.refl _ _⟩
    case round =>
      obtain ⟨k, rfl, hor, hb⟩ := hrel
      have HB := Lib.hid hb
      clear hb
      rcases hor with ⟨hk, hany⟩ | ⟨rfl, rfl⟩
      · have hkz : (k : Int) ≤ xs.length := by omega
        have hnext : (mat ps ((xs.drop k).map (·.data.toList)) = true → R = true) ∧ (mat ps ((xs.drop k).map (·.data.toList)) = false → ((k + 1 ≤ xs.length ∧ anyTail (mat ps) ((xs.drop (k + 1)).map (·.data.toList)) = R) ∨ (k + 1 = xs.length + 1 ∧ R = false))) := by
          by_cases hkl : k < xs.length
          · have he : (xs.drop k).map (·.data.toList) = xs[k].data.toList :: (xs.drop (k + 1)).map (·.data.toList) := by rw [List.drop_eq_getElem_cons hkl]; rfl
            rw [he, anyTail, ← he] at hany
            constructor
            · intro h
              rw [h, Bool.true_or] at hany
              exact hany.symm
            · intro h
              rw [h, Bool.false_or] at hany
              exact .inl ⟨by omega, hany⟩
          · have he : xs.drop k = [] := List.drop_of_length_le (by omega)
            rw [he, List.map_nil, anyTail] at hany
            rw [he, List.map_nil, hany]
            exact ⟨id, fun h => .inr ⟨by omega, h⟩⟩
        have cX : ∀ d os, Calls Tryd.prog 61 #[.slice (if cp = 1 then some ⟨gp, op, none⟩ else some ⟨gp, op + 1, none⟩) ts'.length (cp - 1), .slice (if cn = k then some ad else some (ad.add k)) (xs.length - k) (cn - k)] (Go.Sort.grow (redrawn wr d) os) fun e w'' => e = .returned (.bool (mat ps ((xs.drop k).map (·.data.toList)))) ∧ ∃ p : Regrown, w'' = Go.Sort.grow (redrawn wr p.d) p.os := fun d os => Calls.regrown_of (cQ k _ hk (HB.out.trans ((below_regrown wr d os).mono HB.out.size)))
        generalize mat ps ((xs.drop k).map (·.data.toList)) = X at hnext cX
        clear hany
        cases X
        · have HNx := Lib.hid (hnext.2 rfl)
          clear hnext
          go_wp2_with fail
          with_reducible refine wp_region_quiet_below (by kernel_rfl) (by kernel_rfl) ?_
          repeat (go_big_quiet_step (first | (go_at_call_of 61 (Value.slice (if cn = k then some ad else some (ad.add k)) (xs.length - k) (cn - k)); exact cX _ _)))
          refine wpQuiet_nil ?_
          intro _ hw'
          obtain ⟨⟨dq, osq⟩, hw''⟩ := hw'
          subst hw''
          go_wp2_with fail
          all_goals
            go_roundw
            case rel => exact ⟨k + 1, by go_num, HNx.out, HB.out.trans ((below_regrown wr dq osq).mono HB.out.size)⟩
            case measure => simp [Go.RowKit.intOf]; omega
        · have hRt := hnext.1 rfl
          subst hRt
          clear hnext
          go_wp2_with fail
          with_reducible refine wp_region_quiet_below (by kernel_rfl) (by kernel_rfl) ?_
          repeat (go_big_quiet_step (first | (go_at_call_of 61 (Value.slice (if cn = k then some ad else some (ad.add k)) (xs.length - k) (cn - k)); exact cX _ _)))
          refine wpQuiet_nil ?_
          intro _ hw'
          obtain ⟨⟨dq, osq⟩, hw''⟩ := hw'
          subst hw''
          go_wp2_with fail
          all_goals
            go_ret
            exact ⟨rfl, HB.out.trans ((below_regrown wr dq osq).mono HB.out.size)⟩
      · have hkz : ¬ ((xs.length : Int) + 1) ≤ xs.length := by omega
        go_wp2_with fail
        go_ret
        exact ⟨rfl, HB.out⟩
theorem pt_els {t : List UInt8} {els : List El} (h : ptL t = .ok (.one els)) : PtIs t els := by
  unfold ptL at h
  split at h
  · cases h
  · split at h
    · cases h
    · split at h
      · cases h
      · rename_i els' hp
        simp only [Except.ok.injEq, Pt.one.injEq] at h
        subst h
        obtain ⟨els2, h1, h2⟩ := pt_is _ t 0 [] els' (Nat.le_refl _) hp
        rw [List.nil_append] at h1
        rw [h1]
        exact h2
set_option maxRecDepth 100000 in
set_option maxHeartbeats 12800000 in
theorem parts_one {t : List UInt8} {els : List El} {tl : List (List UInt8)} {ps : List Pt} (hpt : ptL t = .ok (.one els)) (ih : PartsAt tl ps) : PartsAt (t :: tl) (.one els :: ps) := by
  intro ap an cp cn ts xs W ht hp hn ht4 hx4 hvt hvx
  obtain ⟨t0, ts', rfl⟩ : ∃ t0 ts', ts = t0 :: ts' := by
    cases ts with
    | nil => simp at ht
    | cons t0 ts' => exact ⟨t0, ts', rfl⟩
  rw [List.map_cons] at ht
  simp only [List.cons.injEq] at ht
  obtain ⟨ht0, ht'⟩ := ht
  have hb22 : (t0.toList == [42, 42]) = false := by
    rw [Lib.toList_data, ht0]
    simpa using pt_one hpt
  obtain ⟨gp, op, rfl, hgp, hcp⟩ := hp.at_ (by simp)
  have c0 := hcp 0 t0 rfl
  rw [Nat.add_zero] at c0
  have hlp : (t0 :: ts').length = ts'.length + 1 := rfl
  have hlz : (0 : Int) < ts'.length + 1 := by omega
  have hl1 : (1 : Int) ≤ ts'.length + 1 := by omega
  have hl0 : ((ts'.length : Int) + 1 == 0) = false := beq_eq_false_iff_ne.2 (by omega)
  rw [hlp]
  obtain ⟨hv0, hs0, h470⟩ := hvt t0 (by simp)
  have hPA : PartAt t els := part_any (pt_els hpt) (by rw [← ht0]; exact hv0) (by rw [← ht0]; exact h470)
  have HVT : Hid (∀ t ∈ ts', Lib.validD t.data.toList = true ∧ t.size ≤ 400 ∧ 47 ∉ t.data.toList) := Lib.hid fun t h => hvt t (by simp [h])
  cases xs with
  | nil =>
    clear hn hp hcp ht' hvt hvx ht0 hPA ih hv0 hs0 h470 hlp
    go_enter Tryd.func61, Tryd.ntmps61
    go_wp2_with fail
    with_reducible refine wp_region_quiet_below (by kernel_rfl) (by kernel_rfl) ?_
    repeat (go_big_quiet_step (fail))
    refine wpQuiet_nil ?_
    intro _ hw'
    obtain ⟨⟨dq, osq⟩, hw''⟩ := hw'
    subst hw''
    go_wp2_with fail
    go_ret
    exact ⟨rfl, below_regrown W dq osq⟩
  | cons x0 xs' =>
    obtain ⟨gn, on, rfl, hgn, hcn⟩ := hn.at_ (by simp)
    have d0 := hcn 0 x0 rfl
    rw [Nat.add_zero] at d0
    have hln : (x0 :: xs').length = xs'.length + 1 := rfl
    have hnz : (0 : Int) < xs'.length + 1 := by omega
    have hn1 : (1 : Int) ≤ xs'.length + 1 := by omega
    obtain ⟨hvx0, hsx0⟩ := hvx x0 (by simp)
    have HVX : Hid (∀ x ∈ xs', Lib.validD x.data.toList = true ∧ x.size ≤ 400) := Lib.hid fun x h => hvx x (by simp [h])
    have hmat : mat (.one els :: ps) ((x0 :: xs').map (·.data.toList)) = (fit els (runes x0.data.toList) && mat ps (xs'.map (·.data.toList))) := rfl
    rw [hln, hmat]
    have cR := fun W' => runes_any x0 W' (by omega)
    have hrl := runes_len x0.data.toList
    rw [← Lib.size_eq] at hrl
    have cPt : ∀ (ao : Option Addr) (c : Nat) (rx : List ByteArray) (W' : World), rx.map (·.data.toList) = rnL x0.data.toList → rx.length ≤ c → c ≤ maxLen → (ao = none → rx = [] ∧ c = 0) → StrsAt W' ao rx →
        Calls Tryd.prog 59 #[.string t0, .slice ao rx.length c] W' (PartPost (fit els (runes x0.data.toList)) W') := fun ao c rx W' h1 h2 h3 h4 h5 => by
      have he : EncOf rx (runes x0.data.toList) := by
        unfold EncOf
        rw [h1, rn_valid _ _ (Nat.le_refl _) hvx0]
      exact hPA t0 ao c rx _ W' ht0 hs0 he (runes_vr _ _ (Nat.le_refl _) hvx0) (by rw [he.len]; omega) h2 h3 h4 h5
    have cQ : ∀ W', Below W.heap.size W W' → Calls Tryd.prog 61 #[.slice (if cp = 1 then some ⟨gp, op, none⟩ else some ⟨gp, op + 1, none⟩) ts'.length (cp - 1), .slice (if cn = 1 then some ⟨gn, on, none⟩ else some ⟨gn, on + 1, none⟩) xs'.length (cn - 1)] W' (PartPost (mat ps (xs'.map (·.data.toList))) W') := fun W' hB => by
      have h1 := hp.tail hB 1 (by simp)
      have h2 := hn.tail hB 1 (by simp)
      rw [add_off] at h1 h2
      exact ih _ _ _ _ ts' xs' W' ht' h1 h2 (by simp at ht4; omega) (by simp at hx4; omega) HVT.out HVX.out
    have hcpl := hp.len
    have hcnl := hn.len
    rw [hlp] at hcpl
    rw [hln] at hcnl
    generalize fit els (runes x0.data.toList) = B1 at cPt ⊢
    generalize mat ps (xs'.map (·.data.toList)) = B2 at cQ ⊢
    have hsx := hsx0
    clear hn hp hcp hcn ht' hvt hvx ht0 hPA ih hv0 hs0 h470 hmat hrl hvx0 hsx0 hlp hln
    cases B1
    · exact parts_no t0 x0 gp op gn on ts'.length xs'.length cp cn W hb22 hgp hgn c0 d0 (by simp at ht4; omega) (by simp at hx4; omega) hsx cPt
    · by_cases hc1 : cp = 1 <;> by_cases hn1 : cn = 1
      all_goals
        first | (subst hc1; rw [if_pos rfl, show (1 : Nat) - 1 = 0 from rfl, show ts'.length = 0 by omega] at cQ) | rw [if_neg hc1] at cQ
        first | (subst hn1; rw [if_pos rfl, show (1 : Nat) - 1 = 0 from rfl, show xs'.length = 0 by omega] at cQ) | rw [if_neg hn1] at cQ
        go_enter Tryd.func61, Tryd.ntmps61
        go_wp2_with fail
        go_region_held3 (fun w' => w'.cell? ⟨gp, op, none⟩ = some (.string t0) ∧ w'.cell? ⟨gn, on, none⟩ = some (.string x0)) (first | exact ⟨c0, d0⟩ | exact ⟨k0, l0⟩ | exact ⟨k1, l1⟩ | exact ⟨k2, l2⟩) (first | (go_at_call 60; refine (cR _).mono ?_; rintro e w2 ⟨ao, cr, rx, rfl, q1, q2, q3, q4, q5, q6, hb⟩; have cPt2 := cPt ao cr rx w2 q4 q1 q3 q2 q6; have k0 := (hb.cell (p := ⟨gp, op, none⟩) hgp).trans c0; have l0 := (hb.cell (p := ⟨gn, on, none⟩) hgn).trans d0; have HB2 := Lib.hid (show Below W.heap.size W w2 from Below.trans (by repeat' (first | exact Below.refl _ _ | refine Below.drew ?_)) hb); clear q1 q2 q3 q4 q5 q6 hb) | (go_at_call 59; refine cPt2.mono ?_; rintro e w3 ⟨rfl, hb⟩; have k1 := (hb.cell (p := ⟨gp, op, none⟩) (Nat.lt_of_lt_of_le hgp HB2.out.size)).trans k0; have l1 := (hb.cell (p := ⟨gn, on, none⟩) (Nat.lt_of_lt_of_le hgn HB2.out.size)).trans l0; have HB3 := Lib.hid (HB2.out.trans (hb.mono HB2.out.size)); clear hb) | (go_at_call 61; refine (cQ _ HB3.out).mono ?_; rintro e w4 ⟨rfl, hb⟩; have k2 := (hb.cell (p := ⟨gp, op, none⟩) (Nat.lt_of_lt_of_le hgp HB3.out.size)).trans k1; have l2 := (hb.cell (p := ⟨gn, on, none⟩) (Nat.lt_of_lt_of_le hgn HB3.out.size)).trans l1; have HB4 := Lib.hid (HB3.out.trans (hb.mono HB3.out.size)); clear hb))
        all_goals
          go_wp2_with fail
          go_ret
          exact ⟨rfl, HB4.out⟩
theorem parts_any {tl : List (List UInt8)} {ps : List Pt} (h : Reads tl ps) : PartsAt tl ps := by
  induction h with
  | nil => exact parts_nil
  | cons h r ih =>
    rename_i t p tl ps
    cases p with
    | stars =>
      rw [pt_stars h]
      exact parts_stars ih
    | one els => exact parts_one h ih
end RO
end Go.Proofs.YtechekdiadpmoaaDoor
end
section
/- What a literal matches. -/
namespace Go.Proofs.YtechekdiadpmoaaDoor
open Go.RowKit Go.Lib
namespace LitN
open GP GI GH
theorem ptL_lit {n : List UInt8} (hne : n ≠ []) (hv : Lib.validD n = true) : ptL (litL n) = .ok (.one (lits (runes n))) := by
  unfold ptL
  rw [if_neg (litL_ne hne), if_neg ?_, (pt_lit n.length n 0 [] (Nat.le_refl _) hv).1]
  · rfl
  · intro e
    obtain ⟨x, t, rfl⟩ := List.exists_cons_of_ne_nil hne
    rw [litL_cons] at e
    split at e
    · simp at e
    · rename_i hx
      simp only [List.cons_append, List.cons.injEq] at e
      rw [e.1] at hx
      exact hx (by decide)
def ones (ls : List (List UInt8)) : List Pt := ls.map fun n => .one (lits (runes n))
theorem ps_lit : ∀ (ls : List (List UInt8)) (a : Nat) (acc : List Pt), (∀ n ∈ ls, n ≠ [] ∧ Lib.validD n = true) → psR (ls.map litL) a acc = .ok (acc ++ ones ls)
  | [], a, acc, _ => by simp [psR, ones]
  | n :: ls, a, acc, h => by
    obtain ⟨h1, h2⟩ := h n (by simp)
    have ih := fun a acc => ps_lit ls a acc (fun x hx => h x (by simp [hx]))
    rw [List.map_cons, psR, ptL_lit h1 h2]
    show psR (ls.map litL) _ _ = _
    rw [ih]
    simp [ones]
theorem parts_ok {p : List UInt8} (hp : NP.pathL p = true) : ∀ n ∈ NP.cutOn p, n ≠ [] ∧ Lib.validD n = true := by
  intro n hn
  unfold NP.pathL at hp
  simp only [Bool.and_eq_true] at hp
  have h2 := hp.2
  rw [NP.split_eq] at h2
  have h3 : NP.nameL n = true := List.all_eq_true.1 h2 n hn
  exact ⟨name_ne h3, name_valid h3⟩
theorem path_ne {p : List UInt8} (hp : NP.pathL p = true) : p ≠ [] := by
  rintro rfl
  exact (parts_ok hp [] (by simp [NP.cutOn])).1 rfl
theorem pat_lit {p : List UInt8} (hp : NP.pathL p = true) (h4 : (litL p).length ≤ 400) : patL (litL p) = .ok (ones (NP.cutOn p)) := by
  have hv := (pt_lit p.length p 0 [] (Nat.le_refl _) (path_valid hp)).2
  unfold patL
  rw [if_neg (by rintro (h | h); exact litL_ne (path_ne hp) h; omega), sp_valid _ _ 0 (Nat.le_refl _) hv, cut_lit]
  simp only [ps_lit _ 0 [] (parts_ok hp), List.nil_append]
theorem fit_lits : ∀ (rs ss : List Nat), fit (lits rs) ss = decide (rs = ss)
  | [], [] => by simp [lits, fit]
  | [], s :: ss => by simp [lits, fit]
  | r :: rs, [] => by simp [lits, fit]
  | r :: rs, s :: ss => by
    have ih := fit_lits rs ss
    have e : lits (r :: rs) = .set false [(r, r)] :: lits rs := rfl
    rw [e]
    show (takesL (.set false [(r, r)]) s && fit (lits rs) ss) = _
    rw [ih]
    have ht : takesL (.set false [(r, r)]) s = decide (r = s) := by
      unfold takesL
      by_cases h : r = s
      · subst h; simp
      · have : ¬ (r ≤ s ∧ s ≤ r) := by omega
        simp [h]
        omega
    rw [ht]
    by_cases h1 : r = s
    · subst h1; simp
    · simp [h1]
theorem runes_inj : ∀ (n : Nat) (l m : List UInt8), l.length ≤ n → Lib.validD l = true → Lib.validD m = true → runes l = runes m → l = m
  | 0, l, m, h, _, _, e => by
    have : l = [] := List.eq_nil_of_length_eq_zero (by omega)
    subst this
    by_cases hm : m = []
    · exact hm.symm
    · rw [runes_step hm, runes_nil] at e
      cases e
  | n + 1, l, m, h, hl, hm, e => by
    by_cases hne : l = []
    · subst hne
      by_cases hmn : m = []
      · exact hmn.symm
      · rw [runes_step hmn, runes_nil] at e
        cases e
    · by_cases hmn : m = []
      · subst hmn
        rw [runes_step hne, runes_nil] at e
        cases e
      · obtain ⟨l1, l2, _, _⟩ := lit_rune l hne hl
        obtain ⟨m1, m2, _, _⟩ := lit_rune m hmn hm
        rw [runes_step hne, runes_step hmn] at e
        simp only [List.cons.injEq] at e
        have hw := Lib.decodeL_width l
        have hlp : 0 < l.length := List.length_pos_iff.2 hne
        have ih := runes_inj n _ _ (by rw [List.length_drop]; omega) l1 m1 e.2
        rw [← List.take_append_drop (Lib.decodeL l).2 l, ← List.take_append_drop (Lib.decodeL m).2 m, ← l2, ← m2, ih, e.1]
theorem mat_ones : ∀ (ls ns : List (List UInt8)), (∀ n ∈ ls, n ≠ [] ∧ Lib.validD n = true) → (∀ n ∈ ns, n ≠ [] ∧ Lib.validD n = true) → mat (ones ls) ns = decide (ls = ns)
  | [], [], _, _ => by simp [ones, mat]
  | [], s :: ss, _, _ => by simp [ones, mat]
  | r :: rs, [], _, _ => by simp [ones, mat]
  | r :: rs, s :: ss, h1, h2 => by
    have ih := mat_ones rs ss (fun n hn => h1 n (by simp [hn])) (fun n hn => h2 n (by simp [hn]))
    show (fitsL (lits (runes r)) s && mat (ones rs) ss) = _
    rw [ih]
    unfold fitsL
    rw [fit_lits]
    by_cases h : r = s
    · subst h; simp
    · have : runes r ≠ runes s := fun e => h (runes_inj _ r s (Nat.le_refl _) (h1 r (by simp)).2 (h2 s (by simp)).2 e)
      simp [h, this]
theorem ones_len (ls : List (List UInt8)) : (ones ls).length = ls.length := by simp [ones]
/-- A path with a slash: its literal matches it alone. -/
theorem mat_many {p q : List UInt8} (hp : NP.pathL p = true) (h4 : (litL p).length ≤ 400) (hs : 47 ∈ p) : matL (litL p) q = decide (q = p) := by
  have hl : (ones (NP.cutOn p)).length ≠ 1 := by
    rw [ones_len, NP.cutOn_length]
    have := List.count_pos_iff.2 hs
    omega
  unfold matL
  rw [pat_lit hp h4]
  show (decide (namesL q ≠ []) && matchL (ones (NP.cutOn p)) (namesL q)) = _
  unfold matchL
  rw [if_neg hl]
  by_cases hq : NP.pathL q = true
  · rw [names_yes hq, mat_ones _ _ (parts_ok hp) (parts_ok hq), decide_eq_true (NP.cutOn_ne q), Bool.true_and]
    by_cases h : q = p
    · subst h; simp
    · have : NP.cutOn p ≠ NP.cutOn q := fun e => h (by rw [← NP.cutOn_join q, ← NP.cutOn_join p, e])
      simp [h, this]
  · have hn : namesL q = [] := by unfold namesL; rw [if_neg hq]
    rw [hn]
    have : q ≠ p := by rintro rfl; exact hq hp
    simp [this]
/-- A path without one: its literal matches what has it as its last name. -/
theorem mat_one {p q : List UInt8} (hp : NP.pathL p = true) (h4 : (litL p).length ≤ 400) (hs : 47 ∉ p) : matL (litL p) q = (NP.pathL q && decide (NP.baseL q = p)) := by
  have hc : NP.cutOn p = [p] := NP.cutOn_none hs
  unfold matL
  rw [pat_lit hp h4]
  show (decide (namesL q ≠ []) && matchL (ones (NP.cutOn p)) (namesL q)) = _
  unfold matchL
  rw [if_pos (by rw [ones_len, hc]; rfl)]
  by_cases hq : NP.pathL q = true
  · have hlo : lastOnly (NP.cutOn q) = [NP.lastL q] := by
      unfold lastOnly
      have hg := RT.last_part q
      obtain ⟨i, hi⟩ : ∃ i, NP.cutOn q = i ++ [NP.lastL q] := by
        rw [List.getLast?_eq_some_iff] at hg
        exact hg
      rw [hi]
      simp
    rw [names_yes hq, hlo, hc, mat_ones _ _ (by rw [← hc]; exact parts_ok hp) (fun n hn => parts_ok hq n (by
      have : n ∈ lastOnly (NP.cutOn q) := by rw [hlo]; exact hn
      exact List.mem_of_mem_drop this)), decide_eq_true (NP.cutOn_ne q), hq]
    unfold NP.baseL
    rw [if_pos hq]
    by_cases h : p = NP.lastL q
    · rw [← h]; simp
    · have h2 : ¬ NP.lastL q = p := fun e => h e.symm
      simp [h, h2]
  · have hn : namesL q = [] := by unfold namesL; rw [if_neg hq]
    rw [hn]
    have : NP.pathL q = false := by simpa using hq
    rw [this]
    simp
end LitN
end Go.Proofs.YtechekdiadpmoaaDoor
end
section
/- The document's answer: Match; from what part and parts answer. -/
namespace Go.Proofs.YtechekdiadpmoaaDoor
open Go.RowKit Go.Lib
namespace RG
open GP GM GH NF RP RQ
theorem cut_no : ∀ (n : Nat) (l : List UInt8), l.length ≤ n → ∀ t ∈ NP.cutOn l, 47 ∉ t
  | 0, l, h, t, ht => by
    have : l = [] := List.eq_nil_of_length_eq_zero (by omega)
    subst this
    rw [NP.cutOn_none (by simp)] at ht
    simp only [List.mem_singleton] at ht
    subst ht
    simp
  | n + 1, l, h, t, ht => by
    rcases NP.parts l with hno | ⟨u, v, rfl, hno⟩
    · rw [NP.cutOn_none hno] at ht
      simp only [List.mem_singleton] at ht
      subst ht
      exact hno
    · rw [NP.cutOn_snoc hno] at ht
      rcases List.mem_append.1 ht with ht | ht
      · exact cut_no n u (by rw [List.length_append, List.length_cons] at h; omega) t ht
      · simp only [List.mem_singleton] at ht
        subst ht
        exact hno
theorem cut_no47 {l t : List UInt8} (h : t ∈ NP.cutOn l) : 47 ∉ t := cut_no _ l (Nat.le_refl _) t h
theorem sp_none : ∀ (n : Nat) (l : List UInt8) (a : Nat), l.length ≤ n → spR l a = none → Lib.validD l = true
  | 0, l, a, h, _ => by
    have : l = [] := List.eq_nil_of_length_eq_zero (by omega)
    subst this
    rfl
  | n + 1, l, a, h, e => by
    by_cases hne : l = []
    · subst hne; rfl
    · have hl : 0 < l.length := List.length_pos_iff.2 hne
      have hw := Lib.decodeL_width l
      cases hb : badB l
      · rw [sp_good hne hb] at e
        rw [Lib.validD_step l hne, if_neg (not_bad hb)]
        exact sp_none n _ _ (by rw [List.length_drop]; omega) e
      · rw [sp_bad hne hb] at e
        cases e
theorem pat_ok {l : List UInt8} {ps : List Pt} (h : patL l = .ok ps) : l ≠ [] ∧ l.length ≤ 400 ∧ Lib.validD l = true ∧ Reads (NP.cutOn l) ps := by
  unfold patL at h
  by_cases h0 : l = [] ∨ 400 < l.length
  · rw [if_pos h0] at h; cases h
  · rw [if_neg h0] at h
    cases hs : spR l 0 with
    | some k => rw [hs] at h; cases h
    | none =>
      rw [hs] at h
      simp only [] at h
      cases hp : psR (NP.cutOn l) 0 [] with
      | error k => rw [hp] at h; cases h
      | ok r =>
        rw [hp] at h
        simp only [Except.ok.injEq] at h
        obtain ⟨ps2, h1, h2⟩ := reads_of _ _ _ _ hp
        rw [List.nil_append] at h1
        rw [← h, h1]
        exact ⟨fun e => h0 (.inl e), by omega, sp_none _ l 0 (Nat.le_refl _) hs, h2⟩
theorem reads_len {ts : List (List UInt8)} {ps : List Pt} (h : Reads ts ps) : ts.length = ps.length := by
  induction h with
  | nil => rfl
  | cons _ _ ih => simp [ih]
theorem valid_cut : ∀ (n : Nat) (u t : List UInt8), u.length ≤ n → Lib.validD (u ++ 47 :: t) = true → Lib.validD u = true ∧ Lib.validD t = true
  | 0, u, t, h, hv => by
    have : u = [] := List.eq_nil_of_length_eq_zero (by omega)
    subst this
    rw [List.nil_append, Lib.validD_cons _ _ (by decide)] at hv
    exact ⟨rfl, hv⟩
  | n + 1, u, t, h, hv => by
    by_cases hne : u = []
    · subst hne
      rw [List.nil_append, Lib.validD_cons _ _ (by decide)] at hv
      exact ⟨rfl, hv⟩
    · obtain ⟨x, r, rfl⟩ := List.exists_cons_of_ne_nil hne
      have hne2 : (x :: r) ++ 47 :: t ≠ [] := by simp
      obtain ⟨hb, hv2⟩ := valid_good hne2 hv
      have hw := Lib.decodeL_width ((x :: r) ++ 47 :: t)
      obtain ⟨c, hc, hcl, hch⟩ := dec_cut x (r ++ 47 :: t)
      have hle : (Lib.decodeL ((x :: r) ++ 47 :: t)).2 ≤ (x :: r).length := by
        rw [List.length_cons]
        have e : Lib.decodeL ((x :: r) ++ 47 :: t) = Lib.decodeL (x :: (r ++ 47 :: t)) := rfl
        rw [e, ← hcl]
        by_cases hlt : r.length < c.length
        · exfalso
          have h1 : (r ++ 47 :: t)[r.length]? = some 47 := by rw [List.getElem?_append_right (Nat.le_refl _)]; simp
          rw [hc, List.getElem?_append_left hlt] at h1
          have := hch 47 (List.mem_of_getElem? h1)
          revert this
          decide
        · omega
      have hd := LitN.decode_pre ((x :: r) ++ 47 :: t) ((x :: r).drop (Lib.decodeL ((x :: r) ++ 47 :: t)).2) hne2 (not_bad hb)
      rw [List.take_append_of_le_length hle, List.take_append_drop] at hd
      rw [List.drop_append_of_le_length hle] at hv2
      obtain ⟨i1, i2⟩ := valid_cut n _ t (by rw [List.length_drop, List.length_cons]; rw [List.length_cons] at h; omega) hv2
      refine ⟨?_, i2⟩
      rw [Lib.validD_step _ (by simp), hd, if_neg (not_bad hb)]
      exact i1
theorem parts_valid : ∀ (n : Nat) (l : List UInt8), l.length ≤ n → Lib.validD l = true → ∀ t ∈ NP.cutOn l, Lib.validD t = true ∧ t.length ≤ l.length
  | n, l, h, hv => by
    obtain ⟨t, z, h1, h2, h3⟩ := cut_first l
    rcases h3 with ⟨h3, h4⟩ | ⟨r, h3, h4⟩
    · subst h3
      rw [List.append_nil] at h1
      rw [h4]
      intro y hy
      simp only [List.mem_singleton] at hy
      subst hy
      rw [← h1]
      exact ⟨hv, Nat.le_refl _⟩
    · rw [h3] at h1
      rw [h1] at hv h
      rw [List.length_append, List.length_cons] at h
      obtain ⟨i1, i2⟩ := valid_cut t.length t r (Nat.le_refl _) hv
      rw [h4]
      intro y hy
      have hl : l.length = t.length + (r.length + 1) := by rw [h1, List.length_append, List.length_cons]
      rcases List.mem_cons.1 hy with rfl | hy
      · exact ⟨i1, by omega⟩
      · cases n with
        | zero => omega
        | succ n =>
          obtain ⟨j1, j2⟩ := parts_valid n r (by omega) i2 y hy
          exact ⟨j1, by omega⟩
set_option maxRecDepth 100000 in
set_option maxHeartbeats 1600000 in
theorem rmatch_any : GI.MatchSaid := by
  intro p q w hp hq
  have cC := rcheck_any p w (by unfold maxLen at hp; omega)
  unfold PairPost at cC
  rw [chk_eq] at cC
  unfold chkL at cC
  unfold matL
  cases hpat : patL p.data.toList with
  | error f =>
    rw [hpat] at cC
    simp only [] at cC ⊢
    clear hpat
    have e20 : (((20 : Nat) : Int) == 0) = false := by decide
    go_enter Tryd.func35, Tryd.ntmps35
    go_wp2_with fail
    refine cC.mono ?_
    rintro e w1 ⟨rfl, rfl⟩
    clear cC
    go_wp2_with fail
    go_ret
    exact ⟨rfl, Below.refl _ _⟩
  | ok ps =>
    rw [hpat] at cC
    simp only [] at cC ⊢
    obtain ⟨k1, k2, k3, k4⟩ := pat_ok hpat
    have cP := rpath_any q w hq
    have e0 : (((0 : Nat) : Int) == 0) = true := by decide
    cases hpath : NP.pathL q.data.toList
    · rw [hpath] at cP
      have hnn : namesL q.data.toList = [] := by unfold namesL; rw [hpath]; rfl
      rw [hnn]
      clear hpath hnn hpat k1 k2 k3 k4
      go_enter Tryd.func35, Tryd.ntmps35
      go_wp2_with fail
      refine cC.mono ?_
      rintro e w1 ⟨rfl, rfl⟩
      clear cC
      go_wp2_with fail
      refine cP.mono ?_
      rintro e w2 ⟨rfl, hb⟩
      have Hb := Lib.hid hb
      clear hb cP
      go_wp2_with fail
      go_ret
      exact ⟨rfl, Hb.out⟩
    · rw [hpath] at cP
      have hqs : q.size ≤ 400 := by
        have h := hpath
        unfold NP.pathL at h
        simp only [Bool.and_eq_true, decide_eq_true_eq] at h
        rw [Lib.size_eq]
        exact h.1.1
      rw [names_yes hpath, decide_eq_true (NP.cutOn_ne q.data.toList), Bool.true_and]
      have Hpath := Lib.hid hpath
      have K2 : p.size ≤ 400 := by rw [Lib.size_eq]; exact k2
      have HRd := Lib.hid k4
      have HV := Lib.hid k3
      clear hpath hpat k1 k2 k3 k4
      generalize hBv : matchL ps (NP.cutOn q.data.toList) = B
      have HBv := Lib.hid hBv
      clear hBv
      have cT := fun W => parts_any p W (by omega)
      have cN := fun W => parts_any q W hq
      go_enter Tryd.func35, Tryd.ntmps35
      go_wp2_with fail
      refine cC.mono ?_
      rintro e w1 ⟨rfl, rfl⟩
      clear cC
      go_wp2_with fail
      refine cP.mono ?_
      rintro e w2 ⟨rfl, hb2⟩
      have Hb2 := Lib.hid hb2
      have cT2 := cT w2
      clear hb2 cP cT
      go_wp2_with fail
      refine cT2.mono ?_
      rintro e w3 ⟨bt, ct, ts, rfl, htc, hts, htz, htl, htb, hb3⟩
      have Hb3 := Lib.hid (Hb2.out.trans (hb3.mono Hb2.out.size))
      have cN2 := cN w3
      clear hb3 cT2 cN
      go_wp2_with fail
      refine cN2.mono ?_
      rintro e w4 ⟨bn, cn, xs, rfl, hxc, hxs, hxz, hxl, hxb, hb4⟩
      have Hb4 := Lib.hid (Hb3.out.trans (hb4.mono Hb3.out.size))
      have htl4 : Lies bt ts w4 := ⟨fun j x h => by rw [hb4.cell (p := ⟨bt, 0 + j, none⟩) htl.block]; exact htl.cells j x h, Nat.lt_of_lt_of_le htl.block hb4.size⟩
      have HTL := Lib.hid htl4
      have HXL := Lib.hid hxl
      clear hb4 cN2 htl htl4
      have HR2 : Hid (Reads (ts.map (·.data.toList)) ps) := Lib.hid (by rw [hts]; exact HRd.out)
      have hlen : ts.length = ps.length := by have := reads_len HR2.out; rw [List.length_map] at this; exact this
      have HXV : Hid (∀ x ∈ xs, Lib.validD x.data.toList = true ∧ x.size ≤ 400) := Lib.hid (fun x hx => ⟨(LitN.parts_ok Hpath.out _ (by rw [← hxs]; exact List.mem_map_of_mem hx)).2, by have := hxz x hx; omega⟩)
      have HTV : Hid (∀ t ∈ ts, Lib.validD t.data.toList = true ∧ t.size ≤ 400) := Lib.hid (fun t ht => ⟨(parts_valid _ p.data.toList (Nat.le_refl _) HV.out _ (by rw [← hts]; exact List.mem_map_of_mem ht)).1, by have := htz t ht; omega⟩)
      have hxn : xs.length = (NP.cutOn q.data.toList).length := by rw [← hxs, List.length_map]
      have hct : q.data.toList.count 47 ≤ q.data.toList.length := List.count_le_length
      have hcl := NP.cutOn_length q.data.toList
      have hx400 : xs.length ≤ 401 := by rw [Lib.size_eq] at hqs; omega
      have hBv := HBv.out
      unfold matchL at hBv
      clear HBv
      by_cases h1 : ts.length = 1
      · have hp1 : ps.length = 1 := by omega
        rw [if_pos hp1] at hBv
        obtain ⟨p0, rfl⟩ := List.length_eq_one_iff.1 hp1
        have hno47 : 47 ∉ p.data.toList := by
          intro hm
          have := List.count_pos_iff.2 hm
          have h2 := NP.cutOn_length p.data.toList
          rw [← hts, List.length_map] at h2
          omega
        have hcp : NP.cutOn p.data.toList = [p.data.toList] := NP.cutOn_none hno47
        have hpt : ptL p.data.toList = .ok p0 := by
          have h := HRd.out
          rw [hcp] at h
          cases h with
          | cons h r => exact h
        obtain ⟨n, hn⟩ : ∃ n, xs.length = n + 1 := ⟨xs.length - 1, by omega⟩
        obtain ⟨v, hv, hcell, hmem⟩ := RT.lies_last hxs hn hxl
        have hlo : lastOnly (NP.cutOn q.data.toList) = [NP.lastL q.data.toList] := by
          unfold lastOnly
          have hg := RT.last_part q.data.toList
          obtain ⟨i, hi⟩ : ∃ i, NP.cutOn q.data.toList = i ++ [NP.lastL q.data.toList] := by
            rw [List.getLast?_eq_some_iff] at hg
            exact hg
          rw [hi]
          simp
        rw [hlo] at hBv
        have hone : ((ts.length : Int) == 1) = true := beq_iff_eq.2 (by omega)
        by_cases h22 : p.data.toList = [42, 42]
        · have hb22 : (p.toList == [42, 42]) = true := by rw [Lib.toList_data, h22]; rfl
          have hst : p0 = .stars := by
            rw [h22] at hpt
            have h2 : ptL [42, 42] = .ok .stars := rfl
            rw [h2] at hpt
            cases hpt
            rfl
          subst hst
          have hBt : true = B := hBv
          subst hBt
          clear hBv
          clear hcell hv hlo hpt hcp h22
          go_wp2_with fail
          go_ret
          exact ⟨rfl, Hb4.out⟩
        · have hb22 : (p.toList == [42, 42]) = false := by rw [Lib.toList_data]; simpa using h22
          cases p0 with
          | stars => exact absurd (pt_stars hpt) h22
          | one els =>
            have hres : mat [.one els] [NP.lastL q.data.toList] = fitsL els v.data.toList := by
              show (fitsL els (NP.lastL q.data.toList) && true) = _
              rw [Bool.and_true, hv]
            rw [hres] at hBv
            subst hBv
            have hvz := HXV.out v hmem
            have cR := runes_any v w4 (by omega)
            have hnz : (n : Int) ≤ 401 := by omega
            have Hpt := Lib.hid hpt
            rw [hn]
            clear hv hlo hpt hcp h22 hmem hres hxs hts hxz htz hxn hcl hct hn hxl
            go_wp2_with fail
            refine cR.mono ?_
            rintro e w5 ⟨ao, c, rs, rfl, hr1, hr2, hr3, hr4, hr5, hr6, hb5⟩
            have Hb5 := Lib.hid (Hb4.out.trans (hb5.mono Hb4.out.size))
            have hre : RO.EncOf rs (runes v.data.toList) := by
              unfold RO.EncOf
              rw [hr4, rn_valid _ _ (Nat.le_refl _) hvz.1]
            have hrl := RO.runes_len v.data.toList
            rw [← Lib.size_eq] at hrl
            have cPt : Calls Tryd.prog 59 #[.string p, .slice ao rs.length c] w5 (fun e w' => e = .returned (.bool (fitsL els v.data.toList)) ∧ Below w5.heap.size w5 w') :=
              RO.part_any (RO.pt_els Hpt.out) HV.out hno47 p ao c rs _ w5 rfl K2 hre (RO.runes_vr _ _ (Nat.le_refl _) hvz.1) (by rw [hre.len]; omega) hr1 hr3 hr2 hr6
            clear hre hrl
            clear hb5 cR hr2 hr4 hr5 hr6
            go_wp2_with fail
            refine cPt.mono ?_
            rintro e w6 ⟨rfl, hb6⟩
            have Hb6 := Lib.hid (Hb5.out.trans (hb6.mono Hb5.out.size))
            clear hb6 cPt
            go_wp2_with fail
            go_ret
            exact ⟨rfl, Hb6.out⟩
      · have hone : ((ts.length : Int) == 1) = false := beq_eq_false_iff_ne.2 (by omega)
        rw [if_neg (by omega), ← hxs] at hBv
        subst hBv
        have cPs : Calls Tryd.prog 61 #[.slice (some ⟨bt, 0, none⟩) ts.length ct, .slice (some ⟨bn, 0, none⟩) xs.length cn] w4 (fun e w' => e = .returned (.bool (mat ps (xs.map (·.data.toList)))) ∧ Below w4.heap.size w4 w') :=
          RO.parts_any HR2.out (some ⟨bt, 0, none⟩) (some ⟨bn, 0, none⟩) ct cn ts xs w4 rfl ⟨htc, (fun h => by cases h), fun _ => ⟨bt, 0, rfl, HTL.out.block, HTL.out.cells⟩⟩ ⟨hxc, (fun h => by cases h), fun _ => ⟨bn, 0, rfl, HXL.out.block, HXL.out.cells⟩⟩ (by have := NP.cutOn_length p.data.toList; have h2 := congrArg List.length hts; rw [List.length_map] at h2; have h3 : p.data.toList.count 47 ≤ p.data.toList.length := List.count_le_length; rw [← Lib.size_eq] at h3; omega) (by omega)
            (fun t ht => ⟨(HTV.out t ht).1, (HTV.out t ht).2, cut_no47 (by rw [← hts]; exact List.mem_map_of_mem ht)⟩) HXV.out
        clear hxs hts hxz htz hxn hcl hct hxl HRd HV HTV HXV HR2 HTL HXL hlen
        generalize ts.length = tn at *
        generalize xs.length = xn at *
        go_wp2_with fail
        with_reducible refine cPs.mono ?_
        rintro e w5 ⟨rfl, hb5⟩
        have Hb5 := Lib.hid (Hb4.out.trans (hb5.mono Hb4.out.size))
        clear hb5 cPs
        go_wp2_with fail
        go_ret
        exact ⟨rfl, Hb5.out⟩
end RG
end Go.Proofs.YtechekdiadpmoaaDoor
end
