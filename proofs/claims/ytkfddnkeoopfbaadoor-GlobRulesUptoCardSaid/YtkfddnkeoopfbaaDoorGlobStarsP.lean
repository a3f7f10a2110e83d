/- Layer 2: what ** does, over lists of bytes (no program is read here). -/
import Derived.Test.YtkfddnkeoopfbaaDoorGlobPlain
import Derived.Lib.TrimAscii
namespace Go.Proofs.YtkfddnkeoopfbaaDoor.GP
open Go

theorem spGo_shift : ∀ (n : Nat) (l : List UInt8) (a : Nat), spGo n l a = (spGo n l 0).map (· + a)
  | 0, _, _ => rfl
  | n + 1, l, a => by
    unfold spGo
    by_cases h0 : l = []
    · rw [if_pos h0, if_pos h0]; rfl
    · rw [if_neg h0, if_neg h0]
      split
      · simp
      · rw [spGo_shift n _ (a + (Lib.decodeL l).2), spGo_shift n _ (0 + (Lib.decodeL l).2)]
        cases spGo n (l.drop (Lib.decodeL l).2) 0 with
        | none => rfl
        | some k => simp; omega
theorem spR_shift (l : List UInt8) (a : Nat) : spR l a = (spR l 0).map (· + a) := spGo_shift _ l a
theorem spR_none (l : List UInt8) (a : Nat) : spR l a = none ↔ spR l 0 = none := by
  rw [spR_shift]
  cases spR l 0 <;> simp
theorem spR_ascii (x : UInt8) (l : List UInt8) (a : Nat) (hx : x.toNat < 128) : spR (x :: l) a = spR l (a + 1) := by
  rw [spR_step (by simp), Lib.decodeL_ascii x l hx, if_neg (by
    rintro ⟨h, _⟩
    simp only at h
    omega)]
  rfl
theorem patL_ok {l : List UInt8} (h0 : l ≠ []) (h4 : l.length ≤ 400) (hs : spR l 0 = none) : patL l = match psR (NP.cutOn l) 0 [] with
    | .error k => .error (min k (l.length - 1))
    | .ok ps => .ok ps := by
  unfold patL
  rw [if_neg (by intro h; rcases h with h | h; exact h0 h; omega), hs]
  cases psR (NP.cutOn l) 0 [] <;> rfl
theorem patL_parts {l : List UInt8} {ps : List Pt} (h : patL l = .ok ps) : l ≠ [] ∧ l.length ≤ 400 ∧ spR l 0 = none ∧ psR (NP.cutOn l) 0 [] = .ok ps := by
  unfold patL at h
  split at h
  · simp at h
  · rename_i h0
    split at h
    · simp at h
    · rename_i hs
      split at h
      · simp at h
      · rename_i qs hq
        simp at h
        subst h
        exact ⟨fun e => h0 (.inl e), by omega, hs, hq⟩
/-- One part alone. -/
theorem patL_one {l : List UInt8} (hn : 47 ∉ l) {ps : List Pt} (h : patL l = .ok ps) : ∃ p, ptL l = .ok p ∧ ps = [p] := by
  obtain ⟨_, _, _, h3⟩ := patL_parts h
  rw [NP.cutOn_none hn] at h3
  unfold psR at h3
  split at h3
  · simp at h3
  · rename_i p hp
    simp [psR] at h3
    exact ⟨p, hp, h3.symm⟩
/-- ** and '/' ahead of one part. -/
theorem patL_stars {l : List UInt8} (hn : 47 ∉ l) (h4 : l.length ≤ 40) {p : Pt} (h : patL l = .ok [p]) : patL (42 :: 42 :: 47 :: l) = .ok [.stars, p] := by
  obtain ⟨h0, _, hs, h3⟩ := patL_parts h
  have hp : ptL l = .ok p := by
    obtain ⟨q, hq, e⟩ := patL_one hn h
    rw [hq]
    simp at e
    rw [e]
  rw [patL_ok (by simp) (by simp; omega)]
  · have hc : NP.cutOn (42 :: 42 :: 47 :: l) = [[42, 42], l] := by
      simp [NP.cutOn, NP.cutOn_none hn]
    rw [hc]
    have h2 : ptL [42, 42] = .ok .stars := by simp [ptL]
    simp only [psR, h2, hp]
    rfl
  · rw [spR_ascii _ _ _ (by decide), spR_ascii _ _ _ (by decide), spR_ascii _ _ _ (by decide), spR_none]
    exact hs
theorem mat_last (els : List El) : ∀ ns : List (List UInt8), ns ≠ [] → anyTail (mat [.one els]) ns = mat [.one els] (lastOnly ns)
  | [], h => absurd rfl h
  | [n], _ => by
    show (mat [.one els] [n] || anyTail (mat [.one els]) []) = mat [.one els] [n]
    show (mat [.one els] [n] || false) = _
    simp
  | n :: m :: ns, _ => by
    have ih := mat_last els (m :: ns) (by simp)
    have e : lastOnly (n :: m :: ns) = lastOnly (m :: ns) := by
      unfold lastOnly
      simp only [List.length_cons, Nat.add_sub_cancel]
      rfl
    rw [e, ← ih]
    show (mat [.one els] (n :: m :: ns) || anyTail (mat [.one els]) (m :: ns)) = _
    have : mat [.one els] (n :: m :: ns) = false := by
      show (fitsL els n && (m :: ns).isEmpty) = false
      simp
    rw [this]
    rfl
theorem any_empty {α : Type} : ∀ l : List α, anyTail (fun ns => ns.isEmpty) l = true
  | [] => rfl
  | x :: l => by
    show ((x :: l).isEmpty || anyTail (fun ns => ns.isEmpty) l) = true
    rw [any_empty l]
    simp
theorem fit_star (rs : List Nat) : fit [.star] rs = true := any_empty rs
theorem lastOnly_one {α : Type} : ∀ (l : List α), l ≠ [] → ∃ x, lastOnly l = [x]
  | [], h => absurd rfl h
  | [x], _ => ⟨x, rfl⟩
  | x :: y :: l, _ => by
    obtain ⟨z, hz⟩ := lastOnly_one (y :: l) (by simp)
    refine ⟨z, ?_⟩
    rw [← hz]
    unfold lastOnly
    simp only [List.length_cons, Nat.add_sub_cancel]
    rfl
theorem mat_star_last {ns : List (List UInt8)} (h : ns ≠ []) : mat [.one [.star]] (lastOnly ns) = true := by
  obtain ⟨x, hx⟩ := lastOnly_one ns h
  rw [hx]
  show (fit [.star] (runes x) && true) = true
  rw [fit_star]
  rfl
theorem names_ne {q : List UInt8} (h : NP.pathL q = true) : namesL q ≠ [] := by
  unfold namesL
  rw [if_pos h]
  exact NP.cutOn_ne q
theorem pat2 : patL [42, 42] = .ok [.stars] := by rfl
theorem pat1 : patL [42] = .ok [.one [.star]] := by rfl
theorem pat4 : patL [42, 42, 47, 42] = .ok [.stars, .one [.star]] := by rfl
theorem stars_all {q : List UInt8} (h : NP.pathL q = true) : matL [42, 42] q = true := by
  unfold matL
  rw [pat2]
  show (decide (namesL q ≠ []) && mat [.stars] (lastOnly (namesL q))) = true
  rw [decide_eq_true (names_ne h)]
  exact any_empty _
theorem star_all {q : List UInt8} (h : NP.pathL q = true) : matL [42] q = true := by
  unfold matL
  rw [pat1]
  show (decide (namesL q ≠ []) && mat [.one [.star]] (lastOnly (namesL q))) = true
  rw [decide_eq_true (names_ne h), mat_star_last (names_ne h)]
  rfl
theorem stars_star_all {q : List UInt8} (h : NP.pathL q = true) : matL [42, 42, 47, 42] q = true := by
  unfold matL
  rw [pat4]
  show (decide (namesL q ≠ []) && anyTail (mat [.one [.star]]) (namesL q)) = true
  rw [decide_eq_true (names_ne h), mat_last _ _ (names_ne h), mat_star_last (names_ne h)]
  rfl
/-- ** ahead of a pattern of one part matches it at any depth. -/
theorem stars_deep {l q : List UInt8} (h : NP.pathL q = true) (hn : 47 ∉ l) (h4 : l.length ≤ 40) {ps : List Pt} (hp : patL l = .ok ps) (hne : l ≠ [42, 42]) : matL (42 :: 42 :: 47 :: l) q = matL l q := by
  obtain ⟨p, hpt, rfl⟩ := patL_one hn hp
  unfold matL
  rw [patL_stars hn h4 hp, hp]
  show (decide (namesL q ≠ []) && anyTail (mat [p]) (namesL q)) = (decide (namesL q ≠ []) && mat [p] (lastOnly (namesL q)))
  cases p with
  | stars =>
    exfalso
    unfold ptL at hpt
    by_cases h0 : l = []
    · rw [if_pos h0] at hpt; cases hpt
    · rw [if_neg h0, if_neg hne] at hpt
      cases hr : ptR l 0 [] with
      | error k => rw [hr] at hpt; cases hpt
      | ok els => rw [hr] at hpt; cases hpt
  | one els => rw [mat_last _ _ (names_ne h)]
end Go.Proofs.YtkfddnkeoopfbaaDoor.GP
