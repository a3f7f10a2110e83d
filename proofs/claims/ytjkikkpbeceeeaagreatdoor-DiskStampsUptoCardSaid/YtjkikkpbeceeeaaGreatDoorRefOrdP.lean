/- The order of paths, part by part, is the order that the code reckons byte by byte; and what is within a path, part by part. -/
import Derived.Test.YtjkikkpbeceeeaaGreatDoorNamePath
namespace Go.Proofs.YtjkikkpbeceeeaaGreatDoor.NP
open Go

def cmpL : List UInt8 → List UInt8 → Int
  | [], [] => 0
  | [], _ :: _ => -1
  | _ :: _, [] => 1
  | x :: a, y :: b => if x.toNat < y.toNat then -1 else if y.toNat < x.toNat then 1 else cmpL a b
def cmpP : List (List UInt8) → List (List UInt8) → Int
  | [], [] => 0
  | [], _ :: _ => -1
  | _ :: _, [] => 1
  | x :: a, y :: b => if x = y then cmpP a b else cmpL x y
theorem ordL_cons (x y : UInt8) (a b : List UInt8) : ordL (x :: a) (y :: b) = if rk x < rk y then -1 else if rk y < rk x then 1 else ordL a b := rfl
theorem rk_lt {x y : UInt8} (hx : x ≠ 47) (hy : y ≠ 47) : rk x < rk y ↔ x.toNat < y.toNat := by
  unfold rk
  rw [if_neg hx, if_neg hy]
  exact ⟨fun h => by omega, fun h => by omega⟩
theorem rk_zero : rk 47 = 0 := rfl
theorem rk_pos {x : UInt8} (hx : x ≠ 47) : 0 < rk x := by unfold rk; rw [if_neg hx]; omega
def Ends (p : List UInt8) : Prop := p = [] ∨ ∃ r, p = 47 :: r
theorem ord_parts : ∀ (u v p q : List UInt8), 47 ∉ u → 47 ∉ v → u ≠ v → Ends p → Ends q → ordL (u ++ p) (v ++ q) = cmpL u v
  | [], [], _, _, _, _, h, _, _ => absurd rfl h
  | [], y :: v, p, q, _, hv, _, hp, _ => by
    have hy : y ≠ 47 := by rintro rfl; simp at hv
    rcases hp with rfl | ⟨r, rfl⟩
    · rfl
    · show ordL (47 :: r) (y :: (v ++ q)) = -1
      rw [ordL_cons, rk_zero, if_pos (rk_pos hy)]
  | x :: u, [], p, q, hu, _, _, _, hq => by
    have hx : x ≠ 47 := by rintro rfl; simp at hu
    rcases hq with rfl | ⟨r, rfl⟩
    · rfl
    · show ordL (x :: (u ++ p)) (47 :: r) = 1
      rw [ordL_cons, rk_zero, if_neg (by omega), if_pos (rk_pos hx)]
  | x :: u, y :: v, p, q, hu, hv, h, hp, hq => by
    have hx : x ≠ 47 := by rintro rfl; simp at hu
    have hy : y ≠ 47 := by rintro rfl; simp at hv
    have hu' : 47 ∉ u := fun e => hu (by simp [e])
    have hv' : 47 ∉ v := fun e => hv (by simp [e])
    show ordL (x :: (u ++ p)) (y :: (v ++ q)) = cmpL (x :: u) (y :: v)
    have k1 := rk_lt hx hy
    have k2 := rk_lt hy hx
    rw [ordL_cons, cmpL]
    by_cases h1 : x.toNat < y.toNat
    · rw [if_pos h1, if_pos (k1.2 h1)]
    · rw [if_neg h1, if_neg (fun e => h1 (k1.1 e))]
      by_cases h2 : y.toNat < x.toNat
      · rw [if_pos h2, if_pos (k2.2 h2)]
      · rw [if_neg h2, if_neg (fun e => h2 (k2.1 e))]
        have e : x = y := UInt8.toNat_inj.1 (by omega)
        subst e
        exact ord_parts u v p q hu' hv' (fun e => h (by rw [e])) hp hq
/-- a text: its first part, and what stands behind it -/
theorem first_part (l : List UInt8) : ∃ u p, l = u ++ p ∧ 47 ∉ u ∧ ((p = [] ∧ cutOn l = [u]) ∨ ∃ r, p = 47 :: r ∧ cutOn l = u :: cutOn r) := by
  induction l with
  | nil => exact ⟨[], [], rfl, by simp, .inl ⟨rfl, rfl⟩⟩
  | cons x r ih =>
    by_cases hx : x = 47
    · subst hx
      exact ⟨[], 47 :: r, rfl, by simp, .inr ⟨r, rfl, by rw [cutOn, if_pos rfl]⟩⟩
    · obtain ⟨u, p, rfl, hu, h⟩ := ih
      refine ⟨x :: u, p, rfl, by simp [Ne.symm hx, hu], ?_⟩
      rcases h with ⟨hp, hc⟩ | ⟨r, hp, hc⟩
      · exact .inl ⟨hp, by rw [cutOn, if_neg hx, hc]⟩
      · exact .inr ⟨r, hp, by rw [cutOn, if_neg hx, hc]⟩
theorem ord_cut : ∀ (n : Nat) (a b : List UInt8), a.length ≤ n → ordL a b = cmpP (cutOn a) (cutOn b)
  | n, a, b, hn => by
    obtain ⟨u, p, ea, hu, hp⟩ := first_part a
    obtain ⟨v, q, eb, hv, hq⟩ := first_part b
    have Ep : Ends p := by 
      rcases hp with ⟨h, _⟩ | ⟨r, h, _⟩
      · exact .inl h
      · exact .inr ⟨r, h⟩
    have Eq : Ends q := by 
      rcases hq with ⟨h, _⟩ | ⟨r, h, _⟩
      · exact .inl h
      · exact .inr ⟨r, h⟩
    by_cases huv : u = v
    · subst huv
      have h0 : ordL a b = ordL p q := by rw [ea, eb, ordL_append]
      rw [h0]
      rcases hp with ⟨rfl, hc⟩ | ⟨r, rfl, hc⟩ <;> rcases hq with ⟨rfl, hd⟩ | ⟨r', rfl, hd⟩
      · rw [hc, hd, cmpP, if_pos rfl]; rfl
      · rw [hc, hd, cmpP, if_pos rfl]
        obtain ⟨z, t, e⟩ := List.exists_cons_of_ne_nil (cutOn_ne r')
        rw [e]; rfl
      · rw [hc, hd, cmpP, if_pos rfl]
        obtain ⟨z, t, e⟩ := List.exists_cons_of_ne_nil (cutOn_ne r)
        rw [e]; rfl
      · rw [hc, hd, cmpP, if_pos rfl, ordL_cons, if_neg (by omega), if_neg (by omega)]
        match n, hn with
        | 0, hn => rw [ea] at hn; simp at hn
        | n + 1, hn => exact ord_cut n r r' (by rw [ea] at hn; simp at hn; omega)
    · have := ord_parts u v p q hu hv huv Ep Eq
      rw [← ea, ← eb] at this
      rw [this]
      have e1 : ∃ t, cutOn a = u :: t := by 
        rcases hp with ⟨_, h⟩ | ⟨r, _, h⟩
        · exact ⟨_, h⟩
        · exact ⟨_, h⟩
      have e2 : ∃ t, cutOn b = v :: t := by 
        rcases hq with ⟨_, h⟩ | ⟨r, _, h⟩
        · exact ⟨_, h⟩
        · exact ⟨_, h⟩
      obtain ⟨t, e1⟩ := e1
      obtain ⟨t', e2⟩ := e2
      rw [e1, e2, cmpP, if_neg huv]
theorem ordL_parts (a b : List UInt8) : ordL a b = cmpP (cutOn a) (cutOn b) := ord_cut a.length a b (Nat.le_refl _)
theorem cmpP_append : ∀ (p a b : List (List UInt8)), cmpP (p ++ a) (p ++ b) = cmpP a b
  | [], _, _ => rfl
  | x :: p, a, b => by
    simp only [List.cons_append]
    rw [cmpP, if_pos rfl]
    exact cmpP_append p a b
theorem cmpP_miss {a b : List (List UInt8)} {i : Nat} {x y : List UInt8} (h : a.take i = b.take i) (ha : a[i]? = some x) (hb : b[i]? = some y) (hne : x ≠ y) : cmpP a b = cmpL x y := by
  obtain ⟨hi, ha'⟩ := List.getElem?_eq_some_iff.1 ha
  obtain ⟨hj, hb'⟩ := List.getElem?_eq_some_iff.1 hb
  have ea : a = a.take i ++ x :: a.drop (i + 1) := by rw [← ha', ← List.drop_eq_getElem_cons hi, List.take_append_drop]
  have eb : b = a.take i ++ y :: b.drop (i + 1) := by rw [h, ← hb', ← List.drop_eq_getElem_cons hj, List.take_append_drop]
  rw [ea, eb, cmpP_append, cmpP, if_neg hne]
theorem cmpN_succ (m n : Nat) : cmpN (m + 1) (n + 1) = cmpN m n := by
  unfold cmpN
  repeat' split
  all_goals first | rfl | omega
theorem cmpP_end {a b : List (List UInt8)} {m : Nat} (hm : m = min a.length b.length) (h : a.take m = b.take m) : cmpP a b = cmpN a.length b.length := by
  have key : ∀ (a b : List (List UInt8)), a.take (min a.length b.length) = b.take (min a.length b.length) → cmpP a b = cmpN a.length b.length := by
    intro a
    induction a with
    | nil => intro b _; cases b <;> rfl
    | cons x a ih =>
      intro b hb
      cases b with
      | nil => rfl
      | cons y b =>
        have e : min (x :: a).length (y :: b).length = min a.length b.length + 1 := by simp only [List.length_cons]; omega
        rw [e, List.take_succ_cons, List.take_succ_cons] at hb
        injection hb with h1 h2
        rw [cmpP, if_pos h1, ih b h2]
        exact (cmpN_succ _ _).symm
  exact key a b (by rw [← hm]; exact h)

/- what is within a path -/
theorem cut_app : ∀ (q r : List UInt8), cutOn (q ++ 47 :: r) = cutOn q ++ cutOn r
  | [], r => by
    show cutOn (47 :: r) = [[]] ++ cutOn r
    simp [cutOn]
  | x :: q, r => by
    have ih := cut_app q r
    show cutOn (x :: (q ++ 47 :: r)) = _
    rw [cutOn, ih]
    by_cases hx : x = 47
    · rw [if_pos hx, cutOn, if_pos hx]; rfl
    · obtain ⟨a, t, e⟩ := List.exists_cons_of_ne_nil (cutOn_ne q)
      rw [if_neg hx, cutOn, if_neg hx, e]
      rfl
theorem join_app : ∀ {xs ys : List (List UInt8)}, xs ≠ [] → ys ≠ [] → Lib.join (xs ++ ys) [47] = Lib.join xs [47] ++ 47 :: Lib.join ys [47]
  | [], _, h, _ => absurd rfl h
  | x :: xs, ys, _, hy => by
    obtain ⟨y, t, rfl⟩ := List.exists_cons_of_ne_nil hy
    show Lib.join (x :: (xs ++ y :: t)) [47] = _
    rw [Lib.join_cons, Lib.join_cons, Lib.join_cons]
    simp [Lib.joinTail]
theorem path_pre {q r : List UInt8} (h : pathL (q ++ 47 :: r) = true) : pathL q = true := by
  unfold pathL at h ⊢
  simp only [Bool.and_eq_true, decide_eq_true_eq] at h ⊢
  obtain ⟨⟨h1, h2⟩, h3⟩ := h
  rw [split_eq, cut_app] at h3
  rw [split_eq]
  unfold allL at h3 ⊢
  rw [List.all_append, Bool.and_eq_true] at h3
  simp only [List.length_append, List.count_append] at h1 h2
  exact ⟨⟨by omega, by omega⟩, h3.1⟩
theorem within_parts {p q : List UInt8} (hp : pathL p = true) (hq : q ≠ []) : withinL p q = true ↔ pathL q = true ∧ cutOn q <+: cutOn p := by
  unfold withinL
  rw [hp, Bool.true_and, Bool.and_eq_true]
  unfold Lib.hasPrefix
  rw [List.isPrefixOf_iff_prefix]
  constructor
  · rintro ⟨⟨r, rfl⟩, hr⟩
    rw [List.drop_left] at hr
    unfold restOk at hr
    simp only [Bool.or_eq_true, decide_eq_true_eq] at hr
    rcases hr with (hr | hr) | hr
    · exact absurd hr hq
    · subst hr
      rw [List.append_nil] at hp ⊢
      exact ⟨hp, List.prefix_refl _⟩
    · cases r with
      | nil => simp at hr
      | cons z r =>
        simp only [List.head?_cons, Option.some.injEq] at hr
        subst hr
        exact ⟨path_pre hp, ⟨cutOn r, (cut_app q r).symm⟩⟩
  · rintro ⟨_, t, ht⟩
    have hj := cutOn_join p
    rw [← ht] at hj
    cases t with
    | nil =>
      rw [List.append_nil, cutOn_join] at hj
      subst hj
      exact ⟨List.prefix_refl _, by unfold restOk; simp⟩
    | cons y t =>
      rw [join_app (cutOn_ne q) (by simp), cutOn_join] at hj
      rw [← hj]
      refine ⟨⟨_, rfl⟩, ?_⟩
      rw [List.drop_left]
      unfold restOk
      simp
theorem within_root {p : List UInt8} (hp : pathL p = true) : withinL p [] = true := by
  unfold withinL Lib.hasPrefix restOk
  rw [hp]
  simp
theorem within_noq {p q : List UInt8} (hp : pathL p = true) (hq : q ≠ []) (h : pathL q = false) : withinL p q = false := by
  rw [Bool.eq_false_iff]
  intro e
  rw [((within_parts hp hq).1 e).1] at h
  cases h
theorem cut_inj {a b : List UInt8} (h : cutOn a = cutOn b) : a = b := by rw [← cutOn_join a, h, cutOn_join]
end Go.Proofs.YtjkikkpbeceeeaaGreatDoor.NP
