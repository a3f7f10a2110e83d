/- Literal: the path with a backslash ahead of each byte that would be more than itself; and what it is of bytes. -/
import Derived.Test.YtkfddnkeoopfbaaDoorGlobSp
import Derived.Test.YtkfddnkeoopfbaaDoorGlobPlain
import Derived.Test.YtkfddnkeoopfbaaDoorNameFn
import Derived.Lib.MapLaws
import Derived.Lib.ValidLaws
namespace Go.Proofs.YtkfddnkeoopfbaaDoor
open Go.RowKit Go.Lib
namespace LitN
open NF
def spB (b : UInt8) : Bool := decide (b = 42 ∨ b = 63 ∨ b = 91 ∨ b = 92)
def litL (l : List UInt8) : List UInt8 := l.flatMap fun b => if spB b = true then [92, b] else [b]
theorem litL_app (a b : List UInt8) : litL (a ++ b) = litL a ++ litL b := by unfold litL; rw [List.flatMap_append]
theorem litL_len (l : List UInt8) : (litL l).length ≤ 2 * l.length := by
  induction l with
  | nil => simp [litL]
  | cons x l ih =>
    have h : litL (x :: l) = (if spB x = true then [92, x] else [x]) ++ litL l := by simp [litL]
    rw [h, List.length_append, List.length_cons]
    split <;> simp <;> omega
/-- No byte of it is special: it is itself. -/
theorem litL_same {l : List UInt8} (h : ∀ b ∈ l, 128 ≤ b.toNat) : litL l = l := by
  induction l with
  | nil => rfl
  | cons x l ih =>
    have hx : spB x = false := by
      have h1 := h x (by simp)
      unfold spB
      simp only [decide_eq_false_iff_not]
      rintro (rfl | rfl | rfl | rfl) <;> simp at h1
    have e : litL (x :: l) = (if spB x = true then [92, x] else [x]) ++ litL l := by simp [litL]
    rw [e, hx, ih (fun b hb => h b (by simp [hb]))]
    rfl
theorem encode_high (r : Int) (h : 128 ≤ r) : ∀ b ∈ Lib.encodeRune r, 128 ≤ b.toNat := by
  intro b hb
  unfold Lib.encodeRune at hb
  obtain ⟨x, hx, rfl⟩ := List.mem_map.1 hb
  have hx2 : 128 ≤ x ∧ x < 256 := by
    have h2 := Lib.encodeRuneZ_byte r x hx
    refine ⟨?_, h2.2⟩
    unfold Lib.encodeRuneZ at hx
    rw [if_neg (by omega)] at hx
    split at hx
    · simp at hx; omega
    · split at hx
      · simp at hx; omega
      · split at hx
        · simp at hx; omega
        · simp at hx; omega
  obtain ⟨n, rfl⟩ := Int.eq_ofNat_of_zero_le (by omega : 0 ≤ x)
  simp
  omega
/-- What one rune of a valid text adds. -/
theorem lit_rune (l : List UInt8) (hne : l ≠ []) (hv : Lib.validD l = true) :
    Lib.validD (l.drop (Lib.decodeL l).2) = true ∧ Lib.encodeRune ((Lib.decodeL l).1 : Int) = l.take (Lib.decodeL l).2 ∧ Lib.validRune ((Lib.decodeL l).1 : Int) = true ∧
    litL (l.take (Lib.decodeL l).2) = (if GS.special ((Lib.decodeL l).1 : Int) = true then [92] else []) ++ l.take (Lib.decodeL l).2 := by
  rw [Lib.validD_step l hne] at hv
  split at hv
  · cases hv
  · rename_i hnb
    have hed := Lib.encode_decode l hne hnb
    have hl : 0 < l.length := List.length_pos_iff.2 hne
    have hvr : Lib.validRune ((Lib.decodeL l).1 : Int) = true := by
      rw [Lib.decodeL_N] at hnb ⊢
      unfold Lib.validRune
      have k0 := (l.getD 0 0).toNat_lt
      have k1 := (l.getD 1 0).toNat_lt
      have k2 := (l.getD 2 0).toNat_lt
      have k3 := (l.getD 3 0).toNat_lt
      simp only [decide_eq_true_eq]
      rcases Lib.decodeN_shape l.length (l.getD 0 0).toNat (l.getD 1 0).toNat (l.getD 2 0).toNat (l.getD 3 0).toNat with ⟨c, e⟩ | ⟨c1, c2, c3, cv, e⟩ | ⟨c1, c2, c3, c4, cv, cs, e⟩ | ⟨c1, c2, c3, c4, c5, cv, cw, e⟩ | e
      · rw [e]; dsimp only; omega
      · rw [e]; dsimp only; omega
      · rw [e]; dsimp only; omega
      · rw [e]; dsimp only; omega
      · rw [e] at hnb; exact absurd ⟨rfl, rfl⟩ hnb
    refine ⟨hv, hed, hvr, ?_⟩
    rw [← hed]
    generalize (Lib.decodeL l).1 = r at *
    by_cases h1 : r < 128
    · have e1 : Lib.encodeRune (r : Int) = [r.toUInt8] := by
        unfold Lib.encodeRune
        rw [Lib.encodeRuneZ_one (by omega) (by omega)]
        simp
      rw [e1]
      have key : ∀ k : Nat, k < 128 → litL [k.toUInt8] = (if GS.special (k : Int) = true then [92] else []) ++ [k.toUInt8] := by decide
      exact key r h1
    · have hb : ∀ b ∈ Lib.encodeRune (r : Int), 128 ≤ b.toNat := encode_high _ (by omega)
      have hs : GS.special (r : Int) = false := by unfold GS.special; simp; omega
      rw [litL_same hb, hs]
      rfl
theorem builder_below {T e : TypeId} {B b : Nat} {bs : List Value} {W W' : World} (h : Lib.IsBuilderF T e B b bs W) (hb : Below W.heap.size W W') : Lib.IsBuilderF T e B b bs W' := by
  have key : ∀ p, Lib.BuilderAtF T e B b p bs W → Lib.BuilderAtF T e B b p bs W' := by
    rintro p ⟨hB, v, hbk, hown, hne⟩
    have hlt : b < W.heap.size := (Array.getElem?_eq_some_iff.1 hbk).1
    refine ⟨hB, v, by rw [hb.block b hlt]; exact hbk, ⟨hown.1, ?_⟩, hne⟩
    rcases hown.2 with hn | ⟨g, cap, cur, fz, hv, hg, hgb, rest⟩
    · exact .inl hn
    · have hgl : g < W.heap.size := (Array.getElem?_eq_some_iff.1 hgb).1
      exact .inr ⟨g, cap, cur, fz, hv, hg, by rw [hb.block g hgl]; exact hgb, rest⟩
  exact h.elim (fun x => .inl (key _ x)) (fun x => .inr (key _ x))
theorem decodeN_more (n m b0 b1 b2 b3 c0 c1 c2 c3 : Nat) (h0 : c0 = b0) (hm : (Lib.decodeN n b0 b1 b2 b3).2 ≤ m) (h1 : 1 < (Lib.decodeN n b0 b1 b2 b3).2 → c1 = b1) (h2 : 2 < (Lib.decodeN n b0 b1 b2 b3).2 → c2 = b2) (h3 : 3 < (Lib.decodeN n b0 b1 b2 b3).2 → c3 = b3) (hv : ¬ ((Lib.decodeN n b0 b1 b2 b3).1 = 65533 ∧ (Lib.decodeN n b0 b1 b2 b3).2 = 1)) :
    Lib.decodeN m c0 c1 c2 c3 = Lib.decodeN n b0 b1 b2 b3 := by
  subst h0
  rcases Lib.decodeN_shape n c0 b1 b2 b3 with ⟨c, e⟩ | ⟨k1, k2, k3, kv, e⟩ | ⟨k1, k2, k3, k4, kv, ks, e⟩ | ⟨k1, k2, k3, k4, k5, kv, kw, e⟩ | e
  · rw [e]
    unfold Lib.decodeN
    rw [if_pos c]
  · rw [e] at hm h1
    obtain rfl := h1 (by show 1 < 2; omega)
    rw [e]
    unfold Lib.decodeN
    rw [if_neg (by omega), if_pos ⟨k1, by exact hm, k3⟩, if_pos kv]
  · rw [e] at hm h1 h2
    obtain rfl := h1 (by show 1 < 3; omega)
    obtain rfl := h2 (by show 2 < 3; omega)
    have hm2 : 3 ≤ m := hm
    rw [e]
    unfold Lib.decodeN
    rw [if_neg (by omega), if_neg (by omega), if_pos ⟨k1, ⟨by omega, k3⟩, by omega, k4⟩, if_pos ⟨kv, by omega⟩]
  · rw [e] at hm h1 h2 h3
    obtain rfl := h1 (by show 1 < 4; omega)
    obtain rfl := h2 (by show 2 < 4; omega)
    obtain rfl := h3 (by show 3 < 4; omega)
    have hm2 : 4 ≤ m := hm
    rw [e]
    unfold Lib.decodeN
    rw [if_neg (by omega), if_neg (by omega), if_neg (by omega), if_pos ⟨k1, ⟨by omega, k3⟩, ⟨by omega, k4⟩, by omega, k5⟩, if_pos ⟨kv, by omega⟩]
  · rw [e] at hv
    exact absurd ⟨rfl, rfl⟩ hv
theorem getD_app (u t : List UInt8) (i : Nat) (h : i < u.length) : (u ++ t).getD i 0 = u.getD i 0 := by
  rw [List.getD_eq_getElem?_getD, List.getD_eq_getElem?_getD, List.getElem?_append_left h]
theorem getD_same (u t : List UInt8) (k i : Nat) (hk : k ≤ u.length) (h : i < k) : (u.take k ++ t).getD i 0 = u.getD i 0 := by
  rw [getD_app _ _ _ (by rw [List.length_take]; omega), List.getD_eq_getElem?_getD, List.getD_eq_getElem?_getD, List.getElem?_take_of_lt h]
/-- Just the bytes of the rune decide it. -/
theorem decode_pre (u t : List UInt8) (hne : u ≠ []) (hv : ¬ ((Lib.decodeL u).1 = 65533 ∧ (Lib.decodeL u).2 = 1)) : Lib.decodeL (u.take (Lib.decodeL u).2 ++ t) = Lib.decodeL u := by
  have hle := Lib.decodeL_le u hne
  have hw := Lib.decodeL_width u
  generalize hk : (Lib.decodeL u).2 = k at hle hw ⊢
  rw [Lib.decodeL_N] at hv hk
  rw [Lib.decodeL_N, Lib.decodeL_N u]
  exact decodeN_more u.length _ _ _ _ _ _ _ _ _ (by rw [getD_same u t k 0 hle (by omega)]) (by rw [hk, List.length_append, List.length_take]; omega) (fun h => by rw [hk] at h; rw [getD_same u t k 1 hle h]) (fun h => by rw [hk] at h; rw [getD_same u t k 2 hle h]) (fun h => by rw [hk] at h; rw [getD_same u t k 3 hle h]) hv
theorem decode_app (u t : List UInt8) (hne : u ≠ []) (hv : ¬ ((Lib.decodeL u).1 = 65533 ∧ (Lib.decodeL u).2 = 1)) : Lib.decodeL (u ++ t) = Lib.decodeL u := by
  have h := decode_pre u (u.drop (Lib.decodeL u).2 ++ t) hne hv
  rw [← List.append_assoc, List.take_append_drop] at h
  exact h
theorem valid_app : ∀ (n : Nat) (u t : List UInt8), u.length ≤ n → Lib.validD u = true → Lib.validD (u ++ t) = Lib.validD t
  | 0, u, t, h, _ => by
    have : u = [] := List.eq_nil_of_length_eq_zero (by omega)
    subst this
    rfl
  | n + 1, u, t, h, hv => by
    by_cases hne : u = []
    · subst hne; rfl
    · have hne2 : u ++ t ≠ [] := by simp [hne]
      have hw := Lib.decodeL_width u
      have hle := Lib.decodeL_le u hne
      rw [Lib.validD_step u hne] at hv
      split at hv
      · cases hv
      · rename_i hb
        have hl : 0 < u.length := List.length_pos_iff.2 hne
        rw [Lib.validD_step _ hne2, decode_app u t hne hb, if_neg hb, List.drop_append_of_le_length hle]
        exact valid_app n _ t (by rw [List.length_drop]; omega) hv
theorem valid_join : ∀ ls : List (List UInt8), (∀ u ∈ ls, Lib.validD u = true) → Lib.validD (Lib.join ls [47]) = true
  | [], _ => rfl
  | [u], h => by
    rw [Lib.join_one]
    exact h u (by simp)
  | u :: v :: ls, h => by
    have ih := valid_join (v :: ls) (fun x hx => h x (by simp [hx]))
    have e : Lib.joinTail [47] (v :: ls) = 47 :: Lib.join (v :: ls) [47] := by rw [Lib.join_cons]; simp [Lib.joinTail]
    rw [Lib.join_cons, valid_app _ u _ (Nat.le_refl _) (h u (by simp)), e, Lib.validD_cons _ _ (by decide)]
    exact ih
theorem name_valid {l : List UInt8} (h : NP.nameL l = true) : Lib.validD l = true := by
  unfold NP.nameL at h
  simp only [Bool.and_eq_true] at h
  exact h.1.2
theorem path_valid {l : List UInt8} (h : NP.pathL l = true) : Lib.validD l = true := by
  unfold NP.pathL at h
  simp only [Bool.and_eq_true] at h
  have h2 := h.2
  rw [NP.split_eq] at h2
  have := valid_join (NP.cutOn l) (fun u hu => name_valid (List.all_eq_true.1 h2 u hu))
  rw [NP.cutOn_join] at this
  exact this
end LitN
end Go.Proofs.YtkfddnkeoopfbaaDoor
