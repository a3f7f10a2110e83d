/- The runes between brackets, as the document holds them against one, are the spans that the code reads there. -/
import Derived.Test.YtkfddnkeoopfbaaDoorGlobLitP
namespace Go.Proofs.YtkfddnkeoopfbaaDoor
open Go.RowKit Go.Lib
namespace RO
open GP LitN

/-- Runes between brackets, each with whether it is a '-' of its own. -/
def hlN : List Nat → List (Nat × Bool)
  | [] => []
  | [x] => if x = 92 then [] else [(x, decide (x = 45))]
  | x :: y :: r => if x = 92 then (y, false) :: hlN r else (x, decide (x = 45)) :: hlN (y :: r)
def okN : List Nat → Bool
  | [] => true
  | [x] => decide (x ≠ 92)
  | x :: y :: r => if x = 92 then okN r else okN (y :: r)
def hdN : List (Nat × Bool) → Nat → Bool
  | [], _ => false
  | [a], r => decide (a.1 = r)
  | [a, b], r => decide (a.1 = r) || decide (b.1 = r)
  | a :: b :: c :: l, r => if b.2 = true then (decide (a.1 ≤ r) && decide (r ≤ c.1)) || hdN l r else decide (a.1 = r) || hdN (b :: c :: l) r
def inSp (r : Nat) (s : Sp) : Bool := decide (s.1 ≤ r) && decide (r ≤ s.2)
theorem in_one (r x : Nat) : inSp r (x, x) = decide (x = r) := by
  unfold inSp
  rw [← Bool.decide_and]
  congr 1
  apply propext
  constructor
  · intro h; omega
  · intro h; omega
theorem hl_plain {x : Nat} (h : x ≠ 92) (R : List Nat) : hlN (x :: R) = (x, decide (x = 45)) :: hlN R ∧ okN (x :: R) = okN R := by
  cases R with
  | nil => simp [hlN, okN, h]
  | cons y r => simp [hlN, okN, h]
theorem hl_esc (x : Nat) (R : List Nat) : hlN (92 :: x :: R) = (x, false) :: hlN R ∧ okN (92 :: x :: R) = okN R := by simp [hlN, okN]
theorem hd_one {a : Nat × Bool} {L : List (Nat × Bool)} (h : L.length < 2 ∨ ∀ b, L.head? = some b → b.2 = false) (r : Nat) : hdN (a :: L) r = (decide (a.1 = r) || hdN L r) := by
  match L, h with
  | [], _ => simp [hdN]
  | [b], _ => simp [hdN]
  | b :: c :: l, h =>
    rcases h with h | h
    · simp at h
      omega
    · have := h b rfl
      rw [hdN, if_neg (by rw [this]; simp)]
theorem hd_span (a b : Nat × Bool) (c : Nat × Bool) (L : List (Nat × Bool)) (hb : b.2 = true) (r : Nat) : hdN (a :: b :: c :: L) r = (inSp r (a.1, c.1) || hdN L r) := by
  rw [hdN, if_pos hb]
  rfl
abbrev enc (x : Nat) : List UInt8 := Lib.encodeRune (x : Int)
theorem enc_head (x : Nat) : (enc x).head? = some (if x < 128 then UInt8.ofNat x else (enc x).headD 0) ∧ (128 ≤ x → 128 ≤ ((enc x).headD 0).toNat) ∧ (x < 128 → enc x = [UInt8.ofNat x]) := by
  by_cases h : x < 128
  · have e : enc x = [UInt8.ofNat x] := by
      unfold enc Lib.encodeRune
      rw [Lib.encodeRuneZ_one (by omega) (by omega)]
      simp
    rw [e]
    exact ⟨by simp [h], by omega, fun _ => rfl⟩
  · have hh := encode_high (x : Int) (by omega)
    have hne : enc x ≠ [] := by
      intro e
      unfold enc Lib.encodeRune Lib.encodeRuneZ at e
      repeat' split at e
      all_goals simp at e
    obtain ⟨b, t, hb⟩ := List.exists_cons_of_ne_nil hne
    rw [if_neg h]
    refine ⟨by rw [hb]; rfl, fun _ => ?_, by omega⟩
    rw [hb]
    exact hh b (by rw [show Lib.encodeRune (x : Int) = enc x from rfl, hb]; simp)
theorem head_is {x b : Nat} (hb : b < 128) (t : List UInt8) : (enc x ++ t).head? = some (UInt8.ofNat b) ↔ x = b := by
  obtain ⟨h1, h2, h3⟩ := enc_head x
  have hne : enc x ≠ [] := by intro e; rw [e] at h1; simp at h1
  have ea : (enc x ++ t).head? = (enc x).head? := by
    obtain ⟨y, r, hy⟩ := List.exists_cons_of_ne_nil hne
    rw [hy]
    rfl
  rw [ea, h1]
  by_cases hx : x < 128
  · rw [if_pos hx]
    simp only [Option.some.injEq]
    constructor
    · intro e
      have := congrArg UInt8.toNat e
      simp [UInt8.toNat_ofNat'] at this
      omega
    · rintro rfl; rfl
  · rw [if_neg hx]
    simp only [Option.some.injEq]
    constructor
    · intro e
      have h4 := h2 (by omega)
      rw [e] at h4
      simp [UInt8.toNat_ofNat'] at h4
      omega
    · intro e; omega
/-- A valid text's first rune. -/
theorem first_rune {l : List UInt8} (hne : l ≠ []) (hv : Lib.validD l = true) :
    ∃ x t, l = enc x ++ t ∧ Lib.decodeL l = (x, (enc x).length) ∧ Lib.validD t = true ∧ enc x ≠ [] ∧
      ∀ t', Lib.validD t' = true → Lib.validD (enc x ++ t') = true ∧ runes (enc x ++ t') = x :: runes t' ∧ Lib.decodeL (enc x ++ t') = (x, (enc x).length) := by
  have hnb : ¬ ((Lib.decodeL l).1 = 65533 ∧ (Lib.decodeL l).2 = 1) := by
    rw [Lib.validD_step l hne] at hv
    split at hv
    · cases hv
    · assumption
  obtain ⟨hv2, hed, hvr, _⟩ := lit_rune l hne hv
  have hw := Lib.decodeL_width l
  have hle := Lib.decodeL_le l hne
  have hlen : (enc (Lib.decodeL l).1).length = (Lib.decodeL l).2 := by
    rw [show enc (Lib.decodeL l).1 = l.take (Lib.decodeL l).2 from hed, List.length_take]
    omega
  have hne2 : enc (Lib.decodeL l).1 ≠ [] := by
    intro e
    rw [e] at hlen
    simp at hlen
    omega
  have key : ∀ t', Lib.decodeL (enc (Lib.decodeL l).1 ++ t') = Lib.decodeL l := fun t' => by
    rw [show enc (Lib.decodeL l).1 = l.take (Lib.decodeL l).2 from hed]
    exact decode_pre l t' hne hnb
  refine ⟨(Lib.decodeL l).1, l.drop (Lib.decodeL l).2, ?_, by rw [hlen], hv2, hne2, fun t' ht' => ?_⟩
  · rw [show enc (Lib.decodeL l).1 = l.take (Lib.decodeL l).2 from hed, List.take_append_drop]
  · have hne3 : enc (Lib.decodeL l).1 ++ t' ≠ [] := by simp [hne2]
    have hd : (enc (Lib.decodeL l).1 ++ t').drop (Lib.decodeL l).2 = t' := by rw [← hlen, List.drop_left]
    refine ⟨?_, ?_, by rw [key, hlen]⟩
    · rw [Lib.validD_step _ hne3, key, if_neg hnb, hd]
      exact ht'
    · rw [runes_step hne3, key, hd]
/-- What is read as one rune (perhaps behind a backslash), of a valid text. -/
theorem read_rune {v : List UInt8} (hne : v ≠ []) (hv : Lib.validD v = true) (h0 : (runeL v).2 ≠ 0) :
    ∃ (c : List UInt8) (x : Nat) (v1 : List UInt8), v = c ++ v1 ∧ runeL v = (x, c.length) ∧ Lib.validD v1 = true ∧ c ≠ [] ∧
      ∀ t', Lib.validD t' = true → Lib.validD (c ++ t') = true ∧ hlN (runes (c ++ t')) = (x, decide (v.head? = some 45)) :: hlN (runes t') ∧ okN (runes (c ++ t')) = okN (runes t') := by
  obtain ⟨x, t, rfl, hd, hvt, hne2, key⟩ := first_rune hne hv
  by_cases h92 : (enc x ++ t).head? = some 92
  · have hx : x = 92 := (head_is (b := 92) (by decide) t).1 h92
    subst hx
    have e92 : enc 92 = [92] := (enc_head 92).2.2 (by decide)
    rw [e92, List.singleton_append] at h0 hv ⊢
    have ht : t ≠ [] := by
      rintro rfl
      apply h0
      rfl
    obtain ⟨y, s, rfl, hd2, hvs, hne3, key2⟩ := first_rune ht hvt
    have hr : runeL (92 :: (enc y ++ s)) = (y, (92 :: enc y).length) := by
      unfold runeL
      rw [if_pos (show (92 :: (enc y ++ s)).head? = some 92 from rfl), List.tail_cons]
      have e : decL (enc y ++ s) = (y, (enc y).length) := by
        unfold decL
        rw [if_neg ht, hd2]
      rw [e]
      have hl : 0 < (enc y).length := List.length_pos_iff.2 hne3
      simp only [if_pos hl, List.length_cons]
    refine ⟨92 :: enc y, y, s, rfl, hr, hvs, by simp, fun t' ht' => ?_⟩
    obtain ⟨k1, k2, _⟩ := key2 t' ht'
    obtain ⟨m1, m2, _⟩ := key (enc y ++ t') k1
    rw [e92, List.singleton_append] at m1 m2
    rw [List.cons_append, m2, k2]
    refine ⟨m1, ?_, (hl_esc y _).2⟩
    rw [(hl_esc y _).1]
    simp
  · have hx : x ≠ 92 := fun e => h92 ((head_is (b := 92) (by decide) t).2 e)
    have hr : runeL (enc x ++ t) = (x, (enc x).length) := by
      unfold runeL
      rw [if_neg h92]
      unfold decL
      rw [if_neg hne, hd]
    refine ⟨enc x, x, t, rfl, hr, hvt, hne2, fun t' ht' => ?_⟩
    obtain ⟨k1, k2, _⟩ := key t' ht'
    rw [k2]
    refine ⟨k1, ?_, (hl_plain hx _).2⟩
    rw [(hl_plain hx _).1]
    have e45 : decide ((enc x ++ t).head? = some 45) = decide (x = 45) := by
      congr 1
      exact propext (head_is (b := 45) (by decide) t)
    rw [e45]
theorem hl_head {l : List UInt8} (hv : Lib.validD l = true) {b : Nat × Bool} (h : (hlN (runes l)).head? = some b) (hb : b.2 = true) : l.head? = some 45 := by
  by_cases hne : l = []
  · subst hne
    rw [runes_nil] at h
    simp [hlN] at h
  · obtain ⟨y, t, rfl, _, hvt, _, key⟩ := first_rune hne hv
    rw [(key t hvt).2.1] at h
    by_cases h92 : y = 92
    · subst h92
      cases hr : runes t with
      | nil =>
        rw [hr] at h
        simp [hlN] at h
      | cons z R =>
        rw [hr, (hl_esc z R).1] at h
        simp only [List.head?_cons, Option.some.injEq] at h
        rw [← h] at hb
        cases hb
    · rw [(hl_plain h92 _).1] at h
      simp only [List.head?_cons, Option.some.injEq] at h
      rw [← h] at hb
      exact (head_is (b := 45) (by decide) t).2 (by simpa using hb)
theorem enc_low {b : Nat} (h : b < 128) : enc b = [UInt8.ofNat b] := (enc_head b).2.2 h
theorem dash_cut {v : List UInt8} (hv : Lib.validD v = true) (h : v.head? = some 45) : ∃ u, v = 45 :: u ∧ Lib.validD u = true ∧ ∀ t', Lib.validD t' = true → Lib.validD (45 :: t') = true ∧ runes (45 :: t') = 45 :: runes t' ∧ Lib.decodeL (45 :: t') = (45, 1) := by
  have hne : v ≠ [] := by rintro rfl; simp at h
  obtain ⟨x, t, rfl, _, hvt, _, key⟩ := first_rune hne hv
  have hx : x = 45 := (head_is (b := 45) (by decide) t).1 h
  subst hx
  have e : enc 45 = [45] := enc_low (by decide)
  rw [e] at key ⊢
  exact ⟨t, rfl, hvt, fun t' ht' => key t' ht'⟩
theorem span_zero {v : List UInt8} (hne : v ≠ []) (h : (runeL v).2 = 0) : (spanL v).2 = 0 := by
  have h92 : v.head? = some 92 := by
    by_cases h92 : v.head? = some 92
    · exact h92
    · unfold runeL at h
      rw [if_neg h92] at h
      have := decL_pos hne
      omega
  unfold spanL
  rw [if_neg (by rw [h, List.drop_zero, h92]; decide)]
  exact h
/-- The spans that are read up to a ']' hold just what the document's runes there hold. -/
theorem br_holds : ∀ (n : Nat) (v : List UInt8) (acc sps : List Sp) (rest : List UInt8), v.length ≤ n → Lib.validD v = true → brR v acc = some (sps, rest) →
    ∃ inner tl, v = inner ++ rest ∧ rest.head? = some 93 ∧ Lib.validD inner = true ∧ sps = acc ++ tl ∧ okN (runes inner) = true ∧ ∀ r, hdN (hlN (runes inner)) r = tl.any (inSp r)
  | 0, v, acc, sps, rest, hn, hv, h => by
    have : v = [] := List.eq_nil_of_length_eq_zero (by omega)
    subst this
    rw [brR_nil] at h
    cases h
  | n + 1, v, acc, sps, rest, hn, hv, h => by
    by_cases hne : v = []
    · subst hne
      rw [brR_nil] at h
      cases h
    by_cases h93 : v.head? = some 93
    · rw [brR_end h93] at h
      split at h
      · cases h
      · simp only [Option.some.injEq, Prod.mk.injEq] at h
        obtain ⟨rfl, rfl⟩ := h
        exact ⟨[], [], rfl, h93, rfl, by simp, rfl, fun r => rfl⟩
    rw [brR_step hne h93] at h
    by_cases hs0 : (spanL v).2 = 0
    · rw [if_pos hs0] at h
      cases h
    rw [if_neg hs0] at h
    have hr0 : (runeL v).2 ≠ 0 := fun e => hs0 (span_zero hne e)
    obtain ⟨c, x, v1, rfl, hr, hvv, hc, key⟩ := read_rune hne hv hr0
    have hcl : 0 < c.length := List.length_pos_iff.2 hc
    have hdr : (c ++ v1).drop (runeL (c ++ v1)).2 = v1 := by rw [hr, List.drop_left]
    have hn1 : v1.length ≤ n := by rw [List.length_append] at hn; omega
    have one (hlt : ∀ inner1, v1 = inner1 ++ rest → (hlN (runes inner1)).length < 2 ∨ ∀ b, (hlN (runes inner1)).head? = some b → Lib.validD inner1 = true → b.2 = false) (hsp : spanL (c ++ v1) = ((x, x), c.length)) :
        ∃ inner tl, c ++ v1 = inner ++ rest ∧ rest.head? = some 93 ∧ Lib.validD inner = true ∧ sps = acc ++ tl ∧ okN (runes inner) = true ∧ ∀ r, hdN (hlN (runes inner)) r = tl.any (inSp r) := by
      rw [hsp, List.drop_left] at h
      obtain ⟨inner1, tl, e1, e2, e3, e4, e5, e6⟩ := br_holds n v1 _ sps rest hn1 hvv h
      obtain ⟨k1, k2, k3⟩ := key inner1 e3
      refine ⟨c ++ inner1, (x, x) :: tl, by rw [e1, List.append_assoc], e2, k1, by rw [e4]; simp, by rw [k3]; exact e5, fun r => ?_⟩
      rw [k2, hd_one ((hlt inner1 e1).imp id fun hh b hb => hh b hb e3), e6, List.any_cons, in_one]
    by_cases h45 : v1.head? = some 45
    · obtain ⟨v2, rfl, hv2, key2⟩ := dash_cut hvv h45
      by_cases hend : v2 = [] ∨ v2.head? = some 93
      · refine one (fun inner1 e1 => .inl ?_) ?_
        · have hsp2 : spanL (45 :: v2) = ((45, 45), 1) := by
            have hr2 : runeL (45 :: v2) = (45, 1) := by
              unfold runeL
              rw [if_neg (by simp)]
              unfold decL
              rw [if_neg (by simp)]
              exact (key2 v2 hv2).2.2
            unfold spanL
            rw [hr2]
            simp only [List.drop_succ_cons, List.drop_zero]
            rw [if_neg]
            rcases hend with h0 | h0
            · rw [h0]; simp
            · rw [h0]; decide
          have hsp1 : spanL (c ++ 45 :: v2) = ((x, x), c.length) := by
            unfold spanL
            rw [hdr, hr, if_pos (show (45 :: v2).head? = some 45 from rfl), List.tail_cons, if_pos hend]
          rw [hsp1, List.drop_left, brR_step (by simp) (by simp), hsp2, if_neg (by simp)] at h
          simp only [List.drop_succ_cons, List.drop_zero] at h
          have hrest : rest = v2 := by
            rcases hend with h0 | h0
            · rw [h0, brR_nil] at h
              cases h
            · rw [brR_end h0] at h
              split at h
              · cases h
              · simp only [Option.some.injEq, Prod.mk.injEq] at h
                exact h.2.symm
          rw [hrest] at e1
          have e : inner1 = [45] := by
            have h5 : [45] ++ v2 = inner1 ++ v2 := e1
            exact (List.append_cancel_right h5).symm
          rw [e, (key2 [] rfl).2.1, runes_nil]
          simp [hlN]
        · unfold spanL
          rw [hdr, hr, if_pos (show (45 :: v2).head? = some 45 from rfl), List.tail_cons, if_pos hend]
      · have hr2 : (runeL v2).2 ≠ 0 := by
          intro e
          apply hs0
          unfold spanL
          rw [hdr, if_pos (show (45 :: v2).head? = some 45 from rfl), List.tail_cons, if_neg hend, if_pos e]
        have hne2 : v2 ≠ [] := fun e => hend (.inl e)
        obtain ⟨c2, y, v3, rfl, hry, hv3, hc2, key3⟩ := read_rune hne2 hv2 hr2
        have hsp : spanL (c ++ 45 :: (c2 ++ v3)) = ((x, y), c.length + 1 + c2.length) := by
          unfold spanL
          rw [hdr, hr, if_pos (show (45 :: (c2 ++ v3)).head? = some 45 from rfl), List.tail_cons, if_neg hend, if_neg hr2, hry]
        have hdrop : (c ++ 45 :: (c2 ++ v3)).drop (c.length + 1 + c2.length) = v3 := by
          have e : c ++ 45 :: (c2 ++ v3) = (c ++ 45 :: c2) ++ v3 := by simp
          have el : (c ++ 45 :: c2).length = c.length + 1 + c2.length := by simp; omega
          rw [e, ← el, List.drop_left]
        rw [hsp, hdrop] at h
        obtain ⟨inner3, tl, e1, e2, e3, e4, e5, e6⟩ := br_holds n v3 _ sps rest (by simp only [List.length_append, List.length_cons] at hn; omega) hv3 h
        obtain ⟨m1, m2, m3⟩ := key3 inner3 e3
        obtain ⟨d1, d2, _⟩ := key2 (c2 ++ inner3) m1
        obtain ⟨k1, k2, k3⟩ := key (45 :: (c2 ++ inner3)) d1
        refine ⟨c ++ 45 :: (c2 ++ inner3), (x, y) :: tl, by rw [e1]; simp, e2, k1, by rw [e4]; simp, ?_, fun r => ?_⟩
        · rw [k3, d2, (hl_plain (by decide) _).2, m3]
          exact e5
        · rw [k2, d2, (hl_plain (by decide) _).1, m2, hd_span _ _ _ _ (by decide), e6, List.any_cons]
    · refine one (fun inner1 e1 => .inr fun b hb hv1 => ?_) ?_
      · cases hb2 : b.2
        · rfl
        · exfalso
          apply h45
          have h1 := hl_head hv1 hb hb2
          rw [e1]
          cases inner1 with
          | nil => simp at h1
          | cons z r => simpa using h1
      · unfold spanL
        rw [hdr, hr, if_neg h45]
end RO
end Go.Proofs.YtkfddnkeoopfbaaDoor
namespace Go.Proofs.YtkfddnkeoopfbaaDoor
open Go.RowKit Go.Lib
namespace RO
open GP LitN

def VR (x : Nat) : Prop := x < 55296 ∨ (57343 < x ∧ x ≤ 1114111)
theorem vr_of {x : Nat} (h : Lib.validRune (x : Int) = true) : VR x := by
  unfold Lib.validRune at h
  simp only [decide_eq_true_eq] at h
  unfold VR
  omega
def encN (x : Nat) : List Nat := if x < 128 then [x] else if x < 2048 then [192 + x / 64, 128 + x % 64] else if x < 65536 then [224 + x / 4096, 128 + x / 64 % 64, 128 + x % 64] else [240 + x / 262144, 128 + x / 4096 % 64, 128 + x / 64 % 64, 128 + x % 64]
theorem t8 {z : Int} {k : Nat} (h : z.toNat = k) : z.toNat.toUInt8 = UInt8.ofNat k := by rw [h]
theorem enc_N {x : Nat} (h : VR x) : enc x = (encN x).map UInt8.ofNat ∧ ∀ k ∈ encN x, k < 256 := by
  unfold VR at h
  unfold encN
  by_cases h1 : x < 128
  · rw [if_pos h1]
    exact ⟨enc_low h1, fun k hk => by simp at hk; omega⟩
  · rw [if_neg h1]
    by_cases h2 : x < 2048
    · rw [if_pos h2]
      refine ⟨?_, fun k hk => by simp at hk; omega⟩
      unfold enc Lib.encodeRune
      rw [Lib.encodeRuneZ_two (by omega) (by omega)]
      simp only [List.map_cons, List.map_nil]
      rw [t8 (k := 192 + x / 64) (by omega), t8 (k := 128 + x % 64) (by omega)]
    · rw [if_neg h2]
      by_cases h3 : x < 65536
      · rw [if_pos h3]
        refine ⟨?_, fun k hk => by simp at hk; omega⟩
        unfold enc Lib.encodeRune
        rw [Lib.encodeRuneZ_three (by omega)]
        simp only [List.map_cons, List.map_nil]
        rw [t8 (k := 224 + x / 4096) (by omega), t8 (k := 128 + x / 64 % 64) (by omega), t8 (k := 128 + x % 64) (by omega)]
      · rw [if_neg h3]
        refine ⟨?_, fun k hk => by simp at hk; omega⟩
        unfold enc Lib.encodeRune
        rw [Lib.encodeRuneZ_four (by omega) (by omega)]
        simp only [List.map_cons, List.map_nil]
        rw [t8 (k := 240 + x / 262144) (by omega), t8 (k := 128 + x / 4096 % 64) (by omega), t8 (k := 128 + x / 64 % 64) (by omega), t8 (k := 128 + x % 64) (by omega)]
def lexN : List Nat → List Nat → Bool
  | _, [] => false
  | [], _ :: _ => true
  | a :: x, b :: y => decide (a < b) || (decide (a = b) && lexN x y)
theorem ofNat_lt {a b : Nat} (ha : a < 256) (hb : b < 256) : decide (UInt8.ofNat a < UInt8.ofNat b) = decide (a < b) := by
  congr 1
  rw [UInt8.lt_iff_toNat_lt]
  simp [UInt8.toNat_ofNat']
  rw [Nat.mod_eq_of_lt ha, Nat.mod_eq_of_lt hb]
theorem ofNat_beq {a b : Nat} (ha : a < 256) (hb : b < 256) : (UInt8.ofNat a == UInt8.ofNat b) = decide (a = b) := by
  rw [Bool.eq_iff_iff]
  simp only [beq_iff_eq, decide_eq_true_eq]
  constructor
  · intro h
    have := congrArg UInt8.toNat h
    simp [UInt8.toNat_ofNat'] at this
    omega
  · rintro rfl; rfl
theorem lex_bytes : ∀ (l m : List Nat), (∀ k ∈ l, k < 256) → (∀ k ∈ m, k < 256) → Op.bytesLess (l.map UInt8.ofNat) (m.map UInt8.ofNat) = lexN l m
  | _, [], _, _ => by
    rw [List.map_nil, Op.bytesLess, lexN]
  | [], b :: y, _, _ => by
    rw [List.map_nil, List.map_cons, Op.bytesLess, lexN]
  | a :: x, b :: y, h1, h2 => by
    rw [List.map_cons, List.map_cons, Op.bytesLess, lexN, lex_bytes x y (fun k hk => h1 k (by simp [hk])) (fun k hk => h2 k (by simp [hk])), ofNat_lt (h1 a (by simp)) (h2 b (by simp)), ofNat_beq (h1 a (by simp)) (h2 b (by simp))]
set_option maxHeartbeats 1600000 in
theorem lex_enc {a b : Nat} (ha : VR a) (hb : VR b) : lexN (encN a) (encN b) = decide (a < b) := by
  unfold VR at ha hb
  rw [Bool.eq_iff_iff, decide_eq_true_eq]
  unfold encN
  by_cases a1 : a < 128
  · rw [if_pos a1]
    by_cases b1 : b < 128
    · rw [if_pos b1]; simp [lexN]
    · rw [if_neg b1]
      by_cases b2 : b < 2048
      · rw [if_pos b2]; simp [lexN]; omega
      · rw [if_neg b2]
        by_cases b3 : b < 65536
        · rw [if_pos b3]; simp [lexN]; omega
        · rw [if_neg b3]; simp [lexN]; omega
  · rw [if_neg a1]
    by_cases a2 : a < 2048
    · rw [if_pos a2]
      by_cases b1 : b < 128
      · rw [if_pos b1]; simp [lexN]; omega
      · rw [if_neg b1]
        by_cases b2 : b < 2048
        · rw [if_pos b2]; simp [lexN]; omega
        · rw [if_neg b2]
          by_cases b3 : b < 65536
          · rw [if_pos b3]; simp [lexN]; omega
          · rw [if_neg b3]; simp [lexN]; omega
    · rw [if_neg a2]
      by_cases a3 : a < 65536
      · rw [if_pos a3]
        by_cases b1 : b < 128
        · rw [if_pos b1]; simp [lexN]; omega
        · rw [if_neg b1]
          by_cases b2 : b < 2048
          · rw [if_pos b2]; simp [lexN]; omega
          · rw [if_neg b2]
            by_cases b3 : b < 65536
            · rw [if_pos b3]; simp [lexN]; omega
            · rw [if_neg b3]; simp [lexN]; omega
      · rw [if_neg a3]
        by_cases b1 : b < 128
        · rw [if_pos b1]; simp [lexN]; omega
        · rw [if_neg b1]
          by_cases b2 : b < 2048
          · rw [if_pos b2]; simp [lexN]; omega
          · rw [if_neg b2]
            by_cases b3 : b < 65536
            · rw [if_pos b3]; simp [lexN]; omega
            · rw [if_neg b3]; simp [lexN]; omega
theorem enc_less {a b : Nat} (ha : VR a) (hb : VR b) : Op.bytesLess (enc a) (enc b) = decide (a < b) := by
  rw [(enc_N ha).1, (enc_N hb).1, lex_bytes _ _ (enc_N ha).2 (enc_N hb).2, lex_enc ha hb]
theorem enc_inj {a b : Nat} (ha : VR a) (hb : VR b) (h : enc a = enc b) : a = b := by
  have h1 := enc_less ha hb
  have h2 := enc_less hb ha
  have h3 := enc_less ha ha
  rw [h] at h1 h2 h3
  rw [h1] at h2
  simp only [decide_eq_decide] at h2
  omega
theorem enc_beq {a b : Nat} (ha : VR a) (hb : VR b) : (enc a == enc b) = decide (a = b) := by
  rw [Bool.eq_iff_iff]
  simp only [beq_iff_eq, decide_eq_true_eq]
  exact ⟨enc_inj ha hb, fun h => by rw [h]⟩
theorem enc_le {a b : Nat} (ha : VR a) (hb : VR b) : (Op.bytesLess (enc a) (enc b) || enc a == enc b) = decide (a ≤ b) := by
  rw [enc_less ha hb, enc_beq ha hb, ← Bool.decide_or]
  congr 1
  apply propext
  omega
theorem runes_vr : ∀ (n : Nat) (l : List UInt8), l.length ≤ n → Lib.validD l = true → ∀ x ∈ runes l, VR x
  | 0, l, h, _, x, hx => by
    have : l = [] := List.eq_nil_of_length_eq_zero (by omega)
    subst this
    rw [runes_nil] at hx
    cases hx
  | n + 1, l, h, hv, x, hx => by
    by_cases hne : l = []
    · subst hne
      rw [runes_nil] at hx
      cases hx
    · obtain ⟨hv2, _, hvr, _⟩ := lit_rune l hne hv
      have hw := Lib.decodeL_width l
      have hl : 0 < l.length := List.length_pos_iff.2 hne
      rw [runes_step hne] at hx
      rcases List.mem_cons.1 hx with rfl | hx
      · exact vr_of hvr
      · exact runes_vr n _ (by rw [List.length_drop]; omega) hv2 x hx
end RO
end Go.Proofs.YtkfddnkeoopfbaaDoor
