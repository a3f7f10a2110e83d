/- Layer 6 over lists: what is within a path, what stands above it, in the order of paths (no program is read here). -/
import Derived.Test.YtjkikkpbeceeeaaGreatDoorRefOrdP
namespace Go.Proofs.YtjkikkpbeceeeaaGreatDoor.TP
open Go NP

/-- A path counted from another one; that one itself, if it is empty. -/
def place (p q : List UInt8) : List UInt8 := if q = [] then p else p ++ 47 :: q
theorem place_nil (p : List UInt8) : place p [] = p := if_pos rfl
theorem place_ne (p : List UInt8) {q : List UInt8} (h : q ≠ []) : place p q = p ++ 47 :: q := if_neg h
theorem name_nil : nameL [] = false := rfl
theorem path_nil : pathL [] = false := rfl
theorem path_ne {p : List UInt8} (h : pathL p = true) : p ≠ [] := fun e => by rw [e, path_nil] at h; cases h
theorem path_iff (p : List UInt8) : pathL p = true ↔ p.length ≤ 400 ∧ p.count 47 < 16 ∧ allL (cutOn p) = true := by
  unfold pathL
  rw [split_eq]
  simp only [Bool.and_eq_true, decide_eq_true_eq]
  constructor
  · rintro ⟨⟨a, b⟩, c⟩; exact ⟨a, b, c⟩
  · rintro ⟨a, b, c⟩; exact ⟨⟨a, b⟩, c⟩
theorem allL_app (a b : List (List UInt8)) : allL (a ++ b) = (allL a && allL b) := by unfold allL; rw [List.all_append]
theorem path_tail {p r : List UInt8} (h : pathL (p ++ 47 :: r) = true) : pathL r = true := by
  rw [path_iff] at h ⊢
  obtain ⟨h1, h2, h3⟩ := h
  rw [cut_app, allL_app, Bool.and_eq_true] at h3
  simp only [List.length_append, List.length_cons, List.count_append, List.count_cons] at h1 h2
  exact ⟨by omega, by omega, h3.2⟩
theorem path_tail_ne {p r : List UInt8} (h : pathL (p ++ 47 :: r) = true) : r ≠ [] := path_ne (path_tail h)
theorem within_iff {n p : List UInt8} (hn : pathL n = true) (hp : p ≠ []) : withinL n p = true ↔ ∃ q, n = place p q := by
  unfold withinL Lib.hasPrefix
  rw [hn, Bool.true_and, Bool.and_eq_true, List.isPrefixOf_iff_prefix]
  constructor
  · rintro ⟨⟨r, rfl⟩, hr⟩
    rw [List.drop_left] at hr
    unfold restOk at hr
    simp only [Bool.or_eq_true, decide_eq_true_eq] at hr
    rcases hr with (hr | hr) | hr
    · exact absurd hr hp
    · subst hr
      exact ⟨[], by rw [place_nil, List.append_nil]⟩
    · cases r with
      | nil => simp at hr
      | cons z r =>
        simp only [List.head?_cons, Option.some.injEq] at hr
        subst hr
        exact ⟨r, by rw [place_ne p (path_tail_ne hn)]⟩
  · rintro ⟨q, rfl⟩
    by_cases hq : q = []
    · rw [hq, place_nil]
      exact ⟨List.prefix_refl _, by unfold restOk; simp⟩
    · rw [place_ne p hq]
      refine ⟨⟨_, rfl⟩, ?_⟩
      rw [List.drop_left]
      unfold restOk
      simp
theorem within_self {p : List UInt8} (h : pathL p = true) : withinL p p = true := (within_iff h (path_ne h)).2 ⟨[], (place_nil p).symm⟩
theorem within_path {n p : List UInt8} (h : withinL n p = true) : pathL n = true := by
  unfold withinL at h
  simp only [Bool.and_eq_true] at h
  exact h.1
theorem place_inj {p a b : List UInt8} (h : place p a = place p b) : a = b := by
  unfold place at h
  by_cases ha : a = []
  · rw [if_pos ha] at h
    by_cases hb : b = []
    · rw [ha, hb]
    · rw [if_neg hb] at h
      have := congrArg List.length h
      simp at this
  · rw [if_neg ha] at h
    by_cases hb : b = []
    · rw [if_pos hb] at h
      have := congrArg List.length h
      simp at this
    · rw [if_neg hb] at h
      have := List.append_cancel_left h
      simpa using this
theorem place_place (p a b : List UInt8) (ha : a ≠ []) : place p (place a b) = place (place p a) b := by
  by_cases hb : b = []
  · rw [hb, place_nil, place_nil]
  · have h1 : a ++ 47 :: b ≠ [] := by simp
    rw [place_ne a hb, place_ne p h1, place_ne p ha, place_ne _ hb]
    simp
/- what stands above -/
theorem up_cases (n : List UInt8) : (47 ∉ n ∧ upL n = [] ∧ lastL n = n) ∨ ∃ u t, n = u ++ 47 :: t ∧ 47 ∉ t ∧ upL n = u ∧ lastL n = t := by
  rcases parts n with h | ⟨u, t, rfl, h⟩
  · exact .inl ⟨h, upL_none h, lastL_none h⟩
  · exact .inr ⟨u, t, rfl, h, upL_snoc h, lastL_snoc h⟩
theorem up_last (n : List UInt8) (hn : pathL n = true) : n = if upL n = [] then lastL n else upL n ++ 47 :: lastL n := by
  rcases up_cases n with ⟨_, h1, h2⟩ | ⟨u, t, rfl, _, h1, h2⟩
  · rw [h1, if_pos rfl, h2]
  · rw [h1, h2, if_neg (path_ne (path_pre hn))]
theorem last_no (n : List UInt8) : 47 ∉ lastL n := by
  rcases up_cases n with ⟨h, _, h2⟩ | ⟨u, t, rfl, h, _, h2⟩
  · rw [h2]; exact h
  · rw [h2]; exact h
theorem up_short {n : List UInt8} (h : n ≠ []) : (upL n).length < n.length := by
  rcases up_cases n with ⟨_, h1, _⟩ | ⟨u, t, rfl, _, h1, _⟩
  · rw [h1]; exact List.length_pos_iff.2 h
  · rw [h1]; simp
theorem up_path {n : List UInt8} (hn : pathL n = true) (h : upL n ≠ []) : pathL (upL n) = true ∧ withinL n (upL n) = true := by
  rcases up_cases n with ⟨_, h1, _⟩ | ⟨u, t, rfl, _, h1, _⟩
  · exact absurd h1 h
  · rw [h1]
    refine ⟨path_pre hn, (within_iff hn (path_ne (path_pre hn))).2 ⟨t, (place_ne u (path_tail_ne hn)).symm⟩⟩
theorem up_place {p q : List UInt8} (hq : q ≠ []) (h : pathL (place p q) = true) : upL (place p q) = place p (upL q) := by
  rw [place_ne p hq] at h ⊢
  rcases up_cases q with ⟨h0, h1, _⟩ | ⟨u, t, rfl, h0, h1, _⟩
  · rw [h1, place_nil, upL_snoc h0]
  · have hu : u ≠ [] := path_ne (path_pre (path_tail h))
    rw [h1, place_ne p hu]
    have e : p ++ 47 :: (u ++ 47 :: t) = (p ++ 47 :: u) ++ 47 :: t := by simp
    rw [e, upL_snoc h0]
theorem last_place {p q : List UInt8} (hq : q ≠ []) : lastL (place p q) = lastL q := by
  rw [place_ne p hq]
  rcases up_cases q with ⟨h0, _, h2⟩ | ⟨u, t, rfl, h0, _, h2⟩
  · rw [h2, lastL_snoc h0]
  · rw [h2]
    have e : p ++ 47 :: (u ++ 47 :: t) = (p ++ 47 :: u) ++ 47 :: t := by simp
    rw [e, lastL_snoc h0]
/-- Below a path, what stands above is within it too. -/
theorem within_up {n p : List UInt8} (hw : withinL n p = true) (hp : p ≠ []) (hne : n ≠ p) : upL n ≠ [] ∧ withinL (upL n) p = true ∧ pathL (upL n) = true := by
  have hn := within_path hw
  obtain ⟨q, e⟩ := (within_iff hn hp).1 hw
  have hq : q ≠ [] := fun h => hne (by rw [e, h, place_nil])
  rw [e] at hn
  have e2 := up_place hq hn
  rw [← e] at e2 hn
  have hu : upL n ≠ [] := by
    rw [e2]
    unfold place
    split
    · exact hp
    · simp
  have hpu := (up_path hn hu).1
  exact ⟨hu, (within_iff hpu hp).2 ⟨_, e2⟩, hpu⟩
theorem within_of_up {n p : List UInt8} (hn : pathL n = true) (hp : p ≠ []) (hu : upL n ≠ []) (h : withinL (upL n) p = true) : withinL n p = true := by
  obtain ⟨hpu, _⟩ := up_path hn hu
  obtain ⟨q, e⟩ := (within_iff hpu hp).1 h
  have hl := up_last n hn
  rw [if_neg hu, e] at hl
  refine (within_iff hn hp).2 ?_
  by_cases hq : q = []
  · rw [hq, place_nil] at hl
    refine ⟨lastL n, ?_⟩
    rw [place_ne p ?_]
    · exact hl
    · rw [hl] at hn; exact path_tail_ne hn
  · rw [place_ne p hq] at hl
    refine ⟨q ++ 47 :: lastL n, ?_⟩
    rw [place_ne p (by simp)]
    exact hl.trans (by simp)
theorem within_trans {a b c : List UInt8} (h1 : withinL a b = true) (hb : b ≠ []) (h2 : withinL b c = true) (hc : c ≠ []) : withinL a c = true := by
  have ha := within_path h1
  obtain ⟨q, e⟩ := (within_iff ha hb).1 h1
  obtain ⟨r, e2⟩ := (within_iff (within_path h2) hc).1 h2
  refine (within_iff ha hc).2 ?_
  by_cases hr : r = []
  · rw [hr, place_nil] at e2
    exact ⟨q, by rw [e, e2]⟩
  · exact ⟨place r q, by rw [e, e2, place_place c r q hr]⟩
/- the order -/
theorem ord_place (p a b : List UInt8) : ordL (place p a) (place p b) = ordL a b := by
  by_cases ha : a = []
  · subst ha
    rw [place_nil]
    by_cases hb : b = []
    · subst hb; rw [place_nil]; exact (ordL_zero p p).2 rfl
    · rw [place_ne p hb]
      have := ordL_append p [] (47 :: b)
      rw [List.append_nil] at this
      rw [this]
      obtain ⟨x, r, rfl⟩ := List.exists_cons_of_ne_nil hb
      rfl
  · rw [place_ne p ha]
    by_cases hb : b = []
    · subst hb
      rw [place_nil]
      have := ordL_append p (47 :: a) []
      rw [List.append_nil] at this
      rw [this]
      obtain ⟨x, r, rfl⟩ := List.exists_cons_of_ne_nil ha
      rfl
    · rw [place_ne p hb, ordL_append]
      show ordL ([47] ++ a) ([47] ++ b) = _
      exact ordL_append [47] a b
theorem ord_nil (a : List UInt8) : ordL [] a ≤ 0 := by
  cases a with
  | nil => decide
  | cons x r => show (-1 : Int) ≤ 0; decide
theorem ord_below {n p : List UInt8} (hp : p ≠ []) (h : withinL n p = true) : ordL p n ≤ 0 := by
  obtain ⟨q, rfl⟩ := (within_iff (within_path h) hp).1 h
  have := ord_place p [] q
  rw [place_nil] at this
  rw [this]
  exact ord_nil q
theorem ord_neg {a b : List UInt8} (h : ordL a b < 0) : ¬ ordL b a < 0 := by
  have := ordL_swap a b
  omega
theorem ord_irr (a : List UInt8) : ¬ ordL a a < 0 := by
  have := (ordL_zero a a).2 rfl
  omega
theorem ord_lt {a b c : List UInt8} (h : ordL a b < 0) (k : ordL b c < 0) : ordL a c < 0 := ordL_lt h (Int.le_of_lt k)
theorem ord_le {a b c : List UInt8} (h : ordL a b ≤ 0) (k : ordL b c < 0) : ordL a c < 0 := by
  rcases ordL_cases a b with e | e | e
  · exact ord_lt (by omega) k
  · rw [(ordL_zero a b).1 e]; exact k
  · omega
theorem ord_tri (a b : List UInt8) : ordL a b < 0 ∨ a = b ∨ ordL b a < 0 := by
  rcases ordL_cases a b with e | e | e
  · exact .inl (by omega)
  · exact .inr (.inl ((ordL_zero a b).1 e))
  · exact .inr (.inr (by have := ordL_swap a b; omega))
/-- What isn't within a path but stands behind it, stands behind all that is within it. -/
theorem ord_behind {n c p : List UInt8} (hp : pathL p = true) (hn : pathL n = true) (hno : withinL n p = false) (hc : withinL c p = true) (h : ¬ ordL n p < 0) : ordL c n < 0 := by
  have hpn : ordL p n < 0 := by
    rcases ord_tri n p with e | e | e
    · exact absurd e h
    · rw [e, within_self hp] at hno; cases hno
    · exact e
  rcases ord_tri c n with e | e | e
  · exact e
  · rw [← e, hc] at hno; cases hno
  · rw [between hn hc hpn e] at hno; cases hno
/-- What stands ahead of a path, stands ahead of all that is within it. -/
theorem ord_ahead {n c p : List UInt8} (hp : p ≠ []) (hc : withinL c p = true) (h : ordL n p < 0) : ordL n c < 0 := ordL_lt h (ord_below hp hc)
end Go.Proofs.YtjkikkpbeceeeaaGreatDoor.TP
