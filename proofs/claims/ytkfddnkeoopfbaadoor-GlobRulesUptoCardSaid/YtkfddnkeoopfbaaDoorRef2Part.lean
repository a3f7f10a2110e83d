/- The document's answer: part. -/
import Derived.Test.YtkfddnkeoopfbaaDoorRef2One
import Derived.Test.YtkfddnkeoopfbaaDoorGlobFrom
import Derived.Lib.QuietBelow
import Derived.Deep.RegionWith
namespace Go.Proofs.YtkfddnkeoopfbaaDoor
open Go.RowKit Go.Lib
namespace RO
open GP LitN RG GR GH

/-- A text read as elements, one behind the other. -/
inductive PtIs : List UInt8 → List El → Prop
  | nil : PtIs [] []
  | cons {l : List UInt8} {e : El} {k : Nat} {els : List El} (hne : l ≠ []) (hel : elL l = some (e, k)) (h : PtIs (l.drop k) els) : PtIs l (e :: els)
theorem pt_is : ∀ (n : Nat) (l : List UInt8) (a : Nat) (acc r : List El), l.length ≤ n → ptR l a acc = .ok r → ∃ els, r = acc ++ els ∧ PtIs l els
  | 0, l, a, acc, r, h, hp => by
    have : l = [] := List.eq_nil_of_length_eq_zero (by omega)
    subst this
    rw [ptR_nil] at hp
    cases hp
    exact ⟨[], by simp, .nil⟩
  | n + 1, l, a, acc, r, h, hp => by
    by_cases hne : l = []
    · subst hne
      rw [ptR_nil] at hp
      cases hp
      exact ⟨[], by simp, .nil⟩
    · rw [ptR_step hne] at hp
      cases he : elL l with
      | none => rw [he] at hp; cases hp
      | some q =>
        obtain ⟨e, k⟩ := q
        rw [he] at hp
        have hk := elL_le hne he
        obtain ⟨els, h1, h2⟩ := pt_is n (l.drop k) _ _ r (by rw [List.length_drop]; omega) hp
        exact ⟨e :: els, by rw [h1]; simp, .cons hne he h2⟩
theorem add_off (g o k : Nat) : (⟨g, o, none⟩ : Addr).add k = ⟨g, o + k, none⟩ := by unfold Addr.add; split <;> simp_all
theorem el_star {l : List UInt8} {e : El} {k : Nat} (hel : elL l = some (e, k)) (h : l.head? = some 42) : e = .star ∧ k = 1 := by
  unfold elL at hel
  rw [if_pos h] at hel
  simp only [Option.some.injEq, Prod.mk.injEq] at hel
  exact ⟨hel.1.symm, hel.2.symm⟩
theorem el_set {l : List UInt8} {e : El} {k : Nat} (hel : elL l = some (e, k)) (h : l.head? ≠ some 42) : ∃ neg sp, e = .set neg sp := by
  unfold elL at hel
  rw [if_neg h] at hel
  split at hel
  · simp only [Option.some.injEq, Prod.mk.injEq] at hel
    exact ⟨_, _, hel.1.symm⟩
  · split at hel
    · unfold brL at hel
      split at hel
      · cases hel
      · simp only [Option.some.injEq, Prod.mk.injEq] at hel
        exact ⟨_, _, hel.1.symm⟩
    · split at hel
      · cases hel
      · simp only [Option.some.injEq, Prod.mk.injEq] at hel
        exact ⟨_, _, hel.1.symm⟩
/-- What follows an element of a valid text is valid. -/
theorem el_valid {l : List UInt8} {e : El} {k : Nat} (hne : l ≠ []) (hv : Lib.validD l = true) (h47 : 47 ∉ l) (hel : elL l = some (e, k)) : Lib.validD (l.drop k) = true := by
  have byte (b : Nat) (hb : b < 128) (h : l.head? = some (UInt8.ofNat b)) : Lib.validD (l.drop 1) = true := by
    obtain ⟨x, t, rfl, hd, hvt, hne2, key⟩ := first_rune hne hv
    have hx : x = b := (head_is hb t).1 h
    subst hx
    rw [enc_low hb]
    exact hvt
  by_cases h42 : l.head? = some 42
  · rw [(el_star hel h42).2]
    exact byte 42 (by decide) h42
  by_cases h63 : l.head? = some 63
  · have he : elL l = some (.set true [], 1) := by
      unfold elL
      rw [if_neg h42, if_pos h63]
    rw [he] at hel
    simp only [Option.some.injEq, Prod.mk.injEq] at hel
    rw [← hel.2]
    exact byte 63 (by decide) h63
  by_cases h91 : l.head? = some 91
  · obtain ⟨u, rfl⟩ : ∃ u, l = 91 :: u := by
      cases l with
      | nil => cases h91
      | cons y u => simp only [List.head?_cons, Option.some.injEq] at h91; subst h91; exact ⟨u, rfl⟩
    have hvu := byte 91 (by decide) h91
    obtain ⟨neg, inner, rest, sp, h93, _, hk1, hu, hk, _, _, hvi, _, _, _⟩ := el_br hv (fun h => h47 (by simp [h])) hel
    obtain ⟨z, hz⟩ : ∃ z, rest = 93 :: z := by
      cases rest with
      | nil => cases h93
      | cons y z => simp only [List.head?_cons, Option.some.injEq] at h93; subst h93; exact ⟨z, rfl⟩
    have e1 : (91 :: u).drop k = z := by
      rw [hu, hz, hk]
      cases neg
      · simp only [Bool.false_eq_true, if_false, List.nil_append, Nat.add_zero]
        rw [show 2 + inner.length = (inner.length + 1) + 1 by omega, List.drop_succ_cons, List.drop_append, List.drop_of_length_le (by omega), List.nil_append, show inner.length + 1 - inner.length = 1 by omega]
        rfl
      · simp only [if_true, List.singleton_append, List.cons_append, List.nil_append]
        rw [show 2 + 1 + inner.length = (inner.length + 1) + 1 + 1 by omega, List.drop_succ_cons, List.drop_succ_cons, List.drop_append, List.drop_of_length_le (by omega), List.nil_append, show inner.length + 1 - inner.length = 1 by omega]
        rfl
    rw [e1]
    have hv2 : Lib.validD (inner ++ 93 :: z) = true := by
      cases neg
      · rw [hu, hz] at hvu
        simpa using hvu
      · rw [hu, hz] at hvu
        simp only [if_true, List.singleton_append, List.cons_append, List.drop_succ_cons, List.drop_zero] at hvu
        obtain ⟨x, t, ht, _, hvt, _, _⟩ := first_rune (l := 33 :: (inner ++ 93 :: z)) (by simp) hvu
        have hx : x = 33 := (head_is (b := 33) (by decide) t).1 (by rw [← ht]; rfl)
        subst hx
        rw [enc_low (by decide), List.singleton_append] at ht
        have ht2 : inner ++ 93 :: z = t := by simpa using ht
        rw [ht2]
        exact hvt
    rw [valid_app _ inner _ (Nat.le_refl _) hvi] at hv2
    obtain ⟨x, t, ht, _, hvt, _, _⟩ := first_rune (l := 93 :: z) (by simp) hv2
    have hx : x = 93 := (head_is (b := 93) (by decide) t).1 (by rw [← ht]; rfl)
    subst hx
    rw [enc_low (by decide), List.singleton_append] at ht
    have ht2 : z = t := by simpa using ht
    rw [ht2]
    exact hvt
  · unfold elL at hel
    rw [if_neg h42, if_neg h63, if_neg h91] at hel
    split at hel
    · cases hel
    · rename_i h0
      simp only [Option.some.injEq, Prod.mk.injEq] at hel
      obtain ⟨c, x, v1, rfl, hr, hv1, _, _⟩ := read_rune hne hv h0
      rw [← hel.2, hr, List.drop_left]
      exact hv1
def PartPost (b : Bool) (W : World) (e : Ending) (w' : World) : Prop := e = .returned (.bool b) ∧ Below W.heap.size W w'
def PartAt (l : List UInt8) (els : List El) : Prop := ∀ (p : ByteArray) (ao : Option Addr) (c : Nat) (xs : List ByteArray) (rs : List Nat) (W : World), p.data.toList = l → p.size ≤ 400 → EncOf xs rs → (∀ y ∈ rs, VR y) → xs.length ≤ 400 → xs.length ≤ c → c ≤ maxLen → (ao = none → xs = [] ∧ c = 0) → StrsAt W ao xs →
  Calls Tryd.prog 18 #[.string p, .slice ao xs.length c] W (PartPost (fit els rs) W)
theorem part_nil : PartAt [] [] := by
  intro p ao c xs rs W hp hs hx hv hl hc hcm hn hst
  have hpe := (empty_of hp).1
  have hlen := hx.len
  have hf : (((xs.length : Nat) : Int) == 0) = fit [] rs := by
    rw [hlen]
    cases rs with
    | nil => rfl
    | cons y r => rfl
  have HF := Lib.hid hf
  clear hp hx hv hst hlen hf hn
  go_enter Tryd.func18, Tryd.ntmps18
  go_wp2_with fail
  go_ret
  exact ⟨by rw [← HF.out]; rfl, Below.refl _ _⟩
set_option maxRecDepth 100000 in
set_option maxHeartbeats 6400000 in
theorem part_star {l : List UInt8} {els : List El} (hne : l ≠ []) (h42 : l.head? = some 42) (ih : PartAt (l.drop 1) els) : PartAt l (.star :: els) := by
  intro p ao c xs rs W hp hs hx hv hl hc hcm hn hst
  obtain ⟨b, t, hbt⟩ := List.exists_cons_of_ne_nil hne
  obtain ⟨hpe, hp0, hb⟩ := cons_of (hp.trans hbt)
  have hb42 : ((((p[0]).toNat : Nat) : Int) == 42) = true := by
    rw [hb]
    rw [hbt] at h42
    simp only [List.head?_cons, Option.some.injEq] at h42
    rw [h42]
    rfl
  have hz : (0 : Int) < p.size := by omega
  have h1z : (1 : Int) ≤ p.size := by omega
  have hd : (p.extract 1 p.size).data.toList = l.drop 1 := by rw [drop_data, hp]
  have hlen := hx.len
  have cP := fun (j : Nat) (ao' : Option Addr) (c' : Nat) (W' : World) (hc' : (xs.drop j).length ≤ c') (hcm' : c' ≤ maxLen) (hn' : ao' = none → xs.drop j = [] ∧ c' = 0) (hst' : StrsAt W' ao' (xs.drop j)) =>
    ih (p.extract 1 p.size) ao' c' (xs.drop j) (rs.drop j) W' hd (by rw [ByteArray.size_extract]; omega) (by unfold EncOf at hx ⊢; rw [List.map_drop, hx, List.map_drop]) (fun y hy => hv y (List.mem_of_mem_drop hy)) (by rw [List.length_drop]; omega) hc' hcm' hn' hst'
  have HLen := Lib.hid hlen
  obtain ⟨R, hR⟩ : ∃ R, fit (.star :: els) rs = R := ⟨_, rfl⟩
  rw [hR]
  have HR : Hid (anyTail (fit els) rs = R) := Lib.hid hR
  rcases ao with _ | ad
  · obtain ⟨rfl, rfl⟩ := hn rfl
    have hrs : rs = [] := List.eq_nil_of_length_eq_zero (by rw [← hlen]; rfl)
    subst hrs
    have cQ : ∀ W', Calls Tryd.prog 18 #[.string (p.extract 1 p.size), .slice none 0 0] W' (PartPost R W') := fun W' => by
      have h := cP 0 none 0 W' (Nat.le_refl _) (by simp) (fun _ => ⟨rfl, rfl⟩) (fun h => by simp at h)
      rw [show fit els (([] : List Nat).drop 0) = R from HR.out] at h
      exact h
    unfold maxLen at hcm
    clear hp hx hst hn hlen hR hb hbt hd hv cP
    go_enter Tryd.func18, Tryd.ntmps18
    go_wp2_with fail
    go_loopw [5] (fun s5 wr => ∃ k : Nat, k ≤ 1 ∧ s5 = .int .i64 k ∧ (k = 1 → R = false) ∧ Below W.heap.size W wr) (fun s5 _ => 1 - (Go.RowKit.intOf s5).toNat)
    case atStart => exact ⟨0, by omega, rfl, (fun h => by omega), Below.refl _ _⟩
    case round =>
      obtain ⟨k, hk, rfl, hor, hb⟩ := hrel
      have HB := Lib.hid hb
      clear hb
      by_cases hk0 : k = 0
      · subst hk0
        clear hor
        cases R
        · have cX : ∀ d os, Calls Tryd.prog 18 #[.string (p.extract 1 p.size), .slice none 0 0] (Go.Sort.grow (redrawn wr d) os) fun e w'' => e = .returned (.bool false) ∧ ∃ p : Regrown, w'' = Go.Sort.grow (redrawn wr p.d) p.os := fun d os => Calls.regrown_of (cQ _)
          go_wp2_with fail
          with_reducible refine wp_region_quiet_below (by kernel_rfl) (by kernel_rfl) ?_
          repeat (go_big_quiet_step (first | (go_at_call_of 18 (Value.string (p.extract 1 p.size)); exact cX _ _)))
          refine wpQuiet_nil ?_
          intro _ hw'
          obtain ⟨⟨dq, osq⟩, hw''⟩ := hw'
          subst hw''
          go_wp2_with fail
          go_roundw
          case rel => exact ⟨1, by omega, by go_num, fun _ => by first | rfl | trivial, HB.out.trans ((below_regrown wr dq osq).mono HB.out.size)⟩
          case measure => simp [Go.RowKit.intOf]
        · have cX : ∀ d os, Calls Tryd.prog 18 #[.string (p.extract 1 p.size), .slice none 0 0] (Go.Sort.grow (redrawn wr d) os) fun e w'' => e = .returned (.bool true) ∧ ∃ p : Regrown, w'' = Go.Sort.grow (redrawn wr p.d) p.os := fun d os => Calls.regrown_of (cQ _)
          go_wp2_with fail
          with_reducible refine wp_region_quiet_below (by kernel_rfl) (by kernel_rfl) ?_
          repeat (go_big_quiet_step (first | (go_at_call_of 18 (Value.string (p.extract 1 p.size)); exact cX _ _)))
          refine wpQuiet_nil ?_
          intro _ hw'
          obtain ⟨⟨dq, osq⟩, hw''⟩ := hw'
          subst hw''
          go_wp2_with fail
          go_ret
          exact ⟨rfl, HB.out.trans ((below_regrown wr dq osq).mono HB.out.size)⟩
      · obtain rfl : k = 1 := by omega
        have hRf := hor rfl
        subst hRf
        go_wp2_with fail
        go_ret
        exact ⟨rfl, HB.out⟩
  · have cQ : ∀ (k : Nat) (W' : World), k ≤ xs.length → Below W.heap.size W W' → Calls Tryd.prog 18 #[.string (p.extract 1 p.size), .slice (if c = k then some ad else some (ad.add k)) (xs.length - k) (c - k)] W' (PartPost (fit els (rs.drop k)) W') := fun k W' hk hB => by
      have h := cP k (if c = k then some ad else some (ad.add k)) (c - k) W' (by rw [List.length_drop]; omega) (by omega) (fun h => by split at h <;> cases h) (fun h0 => by
        rw [List.length_drop] at h0
        obtain ⟨g, o, e, hg, hcell⟩ := hst (by omega)
        simp only [Option.some.injEq] at e
        subst e
        refine ⟨g, o + k, by rw [if_neg (by omega), add_off], Nat.lt_of_lt_of_le hg hB.size, fun j x hj => ?_⟩
        rw [List.getElem?_drop] at hj
        have h1 := hcell (k + j) x hj
        rw [← Nat.add_assoc] at h1
        rw [hB.cell (p := ⟨g, o + k + j, none⟩) hg]
        exact h1)
      rw [List.length_drop] at h
      exact h
    unfold maxLen at hcm
    clear hp hx hst hn hlen hR hb hbt hd hv cP
    go_enter Tryd.func18, Tryd.ntmps18
    go_wp2_with fail
    go_loopw [5] (fun s5 wr => ∃ k : Nat, s5 = .int .i64 k ∧ ((k ≤ xs.length ∧ anyTail (fit els) (rs.drop k) = R) ∨ (k = xs.length + 1 ∧ R = false)) ∧ Below W.heap.size W wr) (fun s5 _ => xs.length + 1 - (Go.RowKit.intOf s5).toNat)
    case atStart => exact ⟨0, rfl, .inl ⟨Nat.zero_le _, HR.out⟩, Below.refl _ _⟩
    case round =>
      obtain ⟨k, rfl, hor, hb⟩ := hrel
      have HB := Lib.hid hb
      clear hb
      rcases hor with ⟨hk, hany⟩ | ⟨rfl, rfl⟩
      · have hkz : (k : Int) ≤ xs.length := by omega
        have hnext : (fit els (rs.drop k) = true → R = true) ∧ (fit els (rs.drop k) = false → ((k + 1 ≤ xs.length ∧ anyTail (fit els) (rs.drop (k + 1)) = R) ∨ (k + 1 = xs.length + 1 ∧ R = false))) := by
          by_cases hkl : k < rs.length
          · rw [List.drop_eq_getElem_cons hkl, anyTail, ← List.drop_eq_getElem_cons hkl] at hany
            constructor
            · intro h
              rw [h, Bool.true_or] at hany
              exact hany.symm
            · intro h
              rw [h, Bool.false_or] at hany
              exact .inl ⟨by have := HLen.out; omega, hany⟩
          · have he : rs.drop k = [] := List.drop_of_length_le (by omega)
            rw [he, anyTail] at hany
            rw [he, hany]
            exact ⟨id, fun h => .inr ⟨by have := HLen.out; omega, h⟩⟩
        have cX : ∀ d os, Calls Tryd.prog 18 #[.string (p.extract 1 p.size), .slice (if c = k then some ad else some (ad.add k)) (xs.length - k) (c - k)] (Go.Sort.grow (redrawn wr d) os) fun e w'' => e = .returned (.bool (fit els (rs.drop k))) ∧ ∃ p : Regrown, w'' = Go.Sort.grow (redrawn wr p.d) p.os := fun d os => Calls.regrown_of (cQ k _ hk (HB.out.trans ((below_regrown wr d os).mono HB.out.size)))
        generalize fit els (rs.drop k) = X at hnext cX
        clear hany
        cases X
        · have HNx := Lib.hid (hnext.2 rfl)
          clear hnext
          go_wp2_with fail
          with_reducible refine wp_region_quiet_below (by kernel_rfl) (by kernel_rfl) ?_
          repeat (go_big_quiet_step (first | (go_at_call_of 18 (Value.string (p.extract 1 p.size)); exact cX _ _)))
          refine wpQuiet_nil ?_
          intro _ hw'
          obtain ⟨⟨dq, osq⟩, hw''⟩ := hw'
          subst hw''
          go_wp2_with fail
          go_roundw
          case rel => exact ⟨k + 1, by go_num, HNx.out, HB.out.trans ((below_regrown wr dq osq).mono HB.out.size)⟩
          case measure => simp [Go.RowKit.intOf]; omega
        · have hRt := hnext.1 rfl
          subst hRt
          clear hnext
          go_wp2_with fail
          with_reducible refine wp_region_quiet_below (by kernel_rfl) (by kernel_rfl) ?_
          repeat (go_big_quiet_step (first | (go_at_call_of 18 (Value.string (p.extract 1 p.size)); exact cX _ _)))
          refine wpQuiet_nil ?_
          intro _ hw'
          obtain ⟨⟨dq, osq⟩, hw''⟩ := hw'
          subst hw''
          go_wp2_with fail
          all_goals
            go_ret
            exact ⟨rfl, HB.out.trans ((below_regrown wr dq osq).mono HB.out.size)⟩
      · have hkz : ¬ ((xs.length : Int) + 1) ≤ xs.length := by omega
        go_wp2_with fail
        go_ret
        exact ⟨rfl, HB.out⟩
set_option maxRecDepth 100000 in
set_option maxHeartbeats 6400000 in
theorem part_set {l : List UInt8} {e : El} {k : Nat} {els : List El} (hne : l ≠ []) (hv : Lib.validD l = true) (h47 : 47 ∉ l) (h42 : l.head? ≠ some 42) (hel : elL l = some (e, k)) (ih : PartAt (l.drop k) els) : PartAt l (e :: els) := by
  intro p ao c xs rs W hp hs hx hvx hl hc hcm hn hst
  obtain ⟨b, t, hbt⟩ := List.exists_cons_of_ne_nil hne
  obtain ⟨hpe, hp0, hb⟩ := cons_of (hp.trans hbt)
  have hb42 : ((((p[0]).toNat : Nat) : Int) == 42) = false := by
    rw [hb]
    apply GR.byte_no (c := 42)
    rintro rfl
    rw [hbt] at h42
    exact h42 rfl
  have hz : (0 : Int) < p.size := by omega
  obtain ⟨neg, sp, rfl⟩ := el_set hel h42
  have hk := elL_le hne hel
  rw [← hp, ← Lib.size_eq] at hk
  have hkz : (k : Int) ≤ p.size := by omega
  have hd : (p.extract k p.size).data.toList = l.drop k := by rw [drop_data, hp]
  have hlen := hx.len
  cases hrs : rs with
  | nil =>
    have hx0 : xs.length = 0 := by rw [hlen, hrs]; rfl
    rw [hx0]
    clear hst hn hlen hx hd ih hb hbt
    go_enter Tryd.func18, Tryd.ntmps18
    go_wp2_with fail
    go_ret
    exact ⟨rfl, Below.refl _ _⟩
  | cons y R =>
    have hxl : 0 < xs.length := by rw [hlen, hrs, List.length_cons]; omega
    have hxlz : (0 : Int) < xs.length := by omega
    have hxl1 : (1 : Int) ≤ xs.length := by omega
    have hxn0 : ((xs.length : Int) == 0) = false := beq_eq_false_iff_ne.2 (by omega)
    obtain ⟨x0, h0, h0d⟩ := hx.at (k := 0) (y := y) (by rw [hrs]; rfl)
    obtain ⟨g, o, rfl, hg, hcell⟩ := hst hxl
    have c0 := hcell 0 x0 h0
    rw [Nat.add_zero] at c0
    have cO := one_any p x0 y k (.set neg sp) W (by rw [hp]; exact hne) hs (by rw [hp]; exact hv) (by rw [hp]; exact h47) (by rw [hp]; exact h42) (by rw [hp]; exact hel) h0d (hvx y (by rw [hrs]; simp))
    have cQ : ∀ W', Below W.heap.size W W' → Calls Tryd.prog 18 #[.string (p.extract k p.size), .slice (if c = 1 then some ⟨g, o, none⟩ else some ⟨g, o + 1, none⟩) (xs.length - 1) (c - 1)] W' (PartPost (fit els R) W') := fun W' hB => by
      have h := ih (p.extract k p.size) (if c = 1 then some ⟨g, o, none⟩ else some ⟨g, o + 1, none⟩) (c - 1) (xs.drop 1) R W' hd (by rw [ByteArray.size_extract]; omega) (by unfold EncOf at hx ⊢; rw [List.map_drop, hx, hrs]; rfl) (fun z hz => hvx z (by rw [hrs]; simp [hz])) (by rw [List.length_drop]; omega) (by rw [List.length_drop]; omega) (by omega) (fun h => by split at h <;> cases h) (fun h0 => by
        rw [List.length_drop] at h0
        refine ⟨g, o + 1, by rw [if_neg (by omega)], Nat.lt_of_lt_of_le hg hB.size, fun j x hj => ?_⟩
        rw [List.getElem?_drop] at hj
        have h1 := hcell (1 + j) x hj
        rw [← Nat.add_assoc] at h1
        rw [hB.cell (p := ⟨g, o + 1 + j, none⟩) hg]
        exact h1)
      rw [List.length_drop] at h
      exact h
    have hfit : fit (.set neg sp :: els) (y :: R) = (takesL (.set neg sp) y && fit els R) := rfl
    rw [hfit]
    unfold maxLen at hcm
    clear hst hn hlen hx hd ih hcell h0 hfit hvx hv h47 hel hp hbt hb
    unfold OnePost at cO
    generalize takesL (.set neg sp) y = B1 at cO ⊢
    generalize fit els R = B2 at cQ ⊢
    cases B1
    · go_enter Tryd.func18, Tryd.ntmps18
      go_wp2_with fail
      refine cO.mono ?_
      rintro e w1 ⟨rfl, hb1⟩
      have HB1 := Lib.hid hb1
      clear hb1
      go_wp2_with fail
      with_reducible refine wp_region_quiet_below (by kernel_rfl) (by kernel_rfl) ?_
      repeat (go_big_quiet_step (fail))
      refine wpQuiet_nil ?_
      intro _ hw'
      obtain ⟨⟨dq, osq⟩, hw''⟩ := hw'
      subst hw''
      go_wp2_with fail
      go_ret
      exact ⟨rfl, HB1.out.trans ((below_regrown w1 dq osq).mono HB1.out.size)⟩
    · have cX : ∀ w1 d os, Below W.heap.size W w1 → Calls Tryd.prog 18 #[.string (p.extract k p.size), .slice (if c = 1 then some ⟨g, o, none⟩ else some ⟨g, o + 1, none⟩) (xs.length - 1) (c - 1)] (Go.Sort.grow (redrawn w1 d) os) fun e w'' => e = .returned (.bool B2) ∧ ∃ p : Regrown, w'' = Go.Sort.grow (redrawn w1 p.d) p.os := fun w1 d os hB => Calls.regrown_of (cQ _ (hB.trans ((below_regrown w1 d os).mono hB.size)))
      go_enter Tryd.func18, Tryd.ntmps18
      go_wp2_with fail
      refine cO.mono ?_
      rintro e w1 ⟨rfl, hb1⟩
      have HB1 := Lib.hid hb1
      clear hb1
      go_wp2_with fail
      with_reducible refine wp_region_quiet_below (by kernel_rfl) (by kernel_rfl) ?_
      repeat (go_big_quiet_step (first | (go_at_call_of 18 (Value.string (p.extract k p.size)); exact cX _ _ _ HB1.out)))
      refine wpQuiet_nil ?_
      intro _ hw'
      obtain ⟨⟨dq, osq⟩, hw''⟩ := hw'
      subst hw''
      go_wp2_with fail
      all_goals
        go_ret
        exact ⟨rfl, HB1.out.trans ((below_regrown w1 dq osq).mono HB1.out.size)⟩
theorem part_any {l : List UInt8} {els : List El} (h : PtIs l els) : Lib.validD l = true → 47 ∉ l → PartAt l els := by
  induction h with
  | nil => intro _ _; exact part_nil
  | cons hne hel h ih =>
    intro hv h47
    have ih2 := ih (el_valid hne hv h47 hel) (fun hm => h47 (List.mem_of_mem_drop hm))
    rename_i l e k els
    by_cases h42 : l.head? = some 42
    · obtain ⟨rfl, rfl⟩ := el_star hel h42
      exact part_star hne h42 ih2
    · exact part_set hne hv h47 h42 hel ih2
end RO
end Go.Proofs.YtkfddnkeoopfbaaDoor
namespace Go.Proofs.YtkfddnkeoopfbaaDoor
open Go.RowKit Go.Lib
namespace RO
open GP LitN RG GR GH

set_option maxRecDepth 100000 in
set_option maxHeartbeats 12800000 in
theorem parts_no (t0 x0 : ByteArray) (gp op gn on tn xn cp cn : Nat) (W : World) (hb22 : (t0.toList == [42, 42]) = false) (hgp : gp < W.heap.size) (hgn : gn < W.heap.size) (c0 : W.cell? ⟨gp, op, none⟩ = some (.string t0)) (d0 : W.cell? ⟨gn, on, none⟩ = some (.string x0)) (htn : tn ≤ 1000) (hxn : xn ≤ 1000) (hx0 : x0.size ≤ 400)
    (cPt : ∀ (ao : Option Addr) (c : Nat) (rx : List ByteArray) (W' : World), rx.map (·.data.toList) = rnL x0.data.toList → rx.length ≤ c → c ≤ maxLen → (ao = none → rx = [] ∧ c = 0) → StrsAt W' ao rx → Calls Tryd.prog 18 #[.string t0, .slice ao rx.length c] W' (PartPost false W')) :
    Calls Tryd.prog 20 #[.slice (some ⟨gp, op, none⟩) (tn + 1) cp, .slice (some ⟨gn, on, none⟩) (xn + 1) cn] W (PartPost false W) := by
  have cR := fun W' => runes_any x0 W' (by omega)
  have hlz : (0 : Int) < tn + 1 := by omega
  have hl0 : ((tn : Int) + 1 == 0) = false := beq_eq_false_iff_ne.2 (by omega)
  have hnz : (0 : Int) < xn + 1 := by omega
  go_enter Tryd.func20, Tryd.ntmps20
  go_wp2_with fail
  first | (go_region_with (first | (go_at_call 19; refine (cR _).mono ?_; rintro e w2 ⟨ao, cr, rx, rfl, q1, q2, q3, q4, q5, q6, hb⟩; have cPt2 := cPt ao cr rx w2 q4 q1 q3 q2 q6; have k0 := (hb.cell (p := ⟨gp, op, none⟩) hgp).trans c0; have l0 := (hb.cell (p := ⟨gn, on, none⟩) hgn).trans d0; have HB2 := Lib.hid (show Below W.heap.size W w2 from Below.trans (by repeat' (first | exact Below.refl _ _ | refine Below.drew ?_)) hb); clear q1 q2 q3 q4 q5 q6 hb) | (go_at_call 18; refine cPt2.mono ?_; rintro e w3 ⟨rfl, hb⟩; have k1 := (hb.cell (p := ⟨gp, op, none⟩) (Nat.lt_of_lt_of_le hgp HB2.out.size)).trans k0; have l1 := (hb.cell (p := ⟨gn, on, none⟩) (Nat.lt_of_lt_of_le hgn HB2.out.size)).trans l0; have HB3 := Lib.hid (HB2.out.trans (hb.mono HB2.out.size)); clear hb))) | fail
  all_goals
    go_wp2_with fail
    go_ret
    exact ⟨rfl, HB3.out⟩
end RO
end Go.Proofs.YtkfddnkeoopfbaaDoor
