/- Texts of this seat, put one behind the other: GlobIgn GlobStarsP GlobIgnP. -/
import Derived.Test.YtechekdiadpmoaaDoorQGlobMatch
import Derived.Test.YtechekdiadpmoaaDoorQGlobPlain
import Derived.Lib.TrimAscii
set_option linter.all false
set_option maxRecDepth 100000
set_option maxHeartbeats 25600000
section
/- Layer 2: the contracts of readRules, lastWord, Ignored, Rules. -/
namespace Go.Proofs.YtechekdiadpmoaaDoor
open Go.RowKit Go.Lib
namespace GI
open GP GM GH NF NC GR

abbrev Rl := Bool × ByteArray
/-- A list of rules, as it lies: in whatever block, from whatever place on. -/
def RulesAt (w : World) (ao : Option Addr) (rs : List Rl) : Prop :=
  0 < rs.length → ∃ g o, ao = some ⟨g, o, none⟩ ∧ g < w.heap.size ∧ ∀ (k : Nat) r, rs[k]? = some r → w.cell? ⟨g, o + k * 2, none⟩ = some (.bool r.1) ∧ w.cell? ⟨g, o + k * 2 + 1, none⟩ = some (.string r.2)
theorem RulesAt.below {w w' : World} {ao : Option Addr} {rs : List Rl} (h : RulesAt w ao rs) (hb : Below w.heap.size w w') : RulesAt w' ao rs := by
  intro hl
  obtain ⟨g, o, e, hg, hc⟩ := h hl
  refine ⟨g, o, e, Nat.lt_of_lt_of_le hg hb.size, fun k r hr => ?_⟩
  obtain ⟨h1, h2⟩ := hc k r hr
  rw [hb.cell (p := ⟨g, o + k * 2, none⟩) hg, hb.cell (p := ⟨g, o + k * 2 + 1, none⟩) hg]
  exact ⟨h1, h2⟩
abbrev Wd := Bool × List Pt
structure WT where
  ig : Bool
  v : Value
def wtCells (l : List WT) : List Value := l.flatMap fun t => [.bool t.ig, t.v]
def LWd (w : World) (t : WT) (d : Wd) : Prop := t.ig = d.1 ∧ LPts w t.v d.2
/-- What the rules say. -/
def rdL (rs : List Rl) : List Wd := rs.filterMap fun r => match patL r.2.data.toList with
  | .error _ => none
  | .ok ps => some (r.1, ps)
theorem rdL_snoc {rs : List Rl} {k : Nat} {r : Rl} (h : rs[k]? = some r) : rdL (rs.take (k + 1)) = rdL (rs.take k) ++ (match patL r.2.data.toList with
    | .error _ => []
    | .ok ps => [(r.1, ps)]) := by
  unfold rdL
  rw [List.take_add_one, h, List.filterMap_append]
  cases hp : patL r.2.data.toList <;> simp [hp]
theorem rdL_len (rs : List Rl) : (rdL rs).length ≤ rs.length := List.length_filterMap_le _ _
theorem rdL_few {rs : List Rl} {d : Wd} (h : d ∈ rdL rs) : Few d.2 := by
  unfold rdL at h
  obtain ⟨r, _, hr⟩ := List.mem_filterMap.1 h
  split at hr
  · cases hr
  · rename_i ps hp
    cases hr
    exact (patL_few hp).1
/- lastWord -/
def lwL (ws : List Wd) (ns : List (List UInt8)) : Bool := ws.foldl (fun b d => if matchL d.2 ns = true then d.1 else b) false
theorem lwL_hit {ws : List Wd} {ns : List (List UInt8)} {k : Nat} {d : Wd} (h : ws[k]? = some d) (hm : matchL d.2 ns = true) (hl : lwL ws ns = lwL (ws.take (k + 1)) ns) : lwL ws ns = d.1 := by
  rw [hl]
  unfold lwL
  rw [List.take_add_one, h, List.foldl_append]
  simp [hm]
theorem lwL_miss {ws : List Wd} {ns : List (List UInt8)} {k : Nat} {d : Wd} (h : ws[k]? = some d) (hm : matchL d.2 ns = false) (hl : lwL ws ns = lwL (ws.take (k + 1)) ns) : lwL ws ns = lwL (ws.take k) ns := by
  rw [hl]
  unfold lwL
  rw [List.take_add_one, h, List.foldl_append]
  simp [hm]
def BoolPost (b : Bool) (w : World) (e : Ending) (w' : World) : Prop := e = .returned (.bool b) ∧ Below w.heap.size w w'
/- Ignored -/
def ignN (ws : List Wd) (ns : List (List UInt8)) : Bool := (List.range ns.length).any fun k => lwL ws (ns.take (k + 1))
def ignL (rs : List Rl) (q : List UInt8) : Bool := ignN (rdL rs) (namesL q)
theorem ignN_hit {ws : List Wd} {ns : List (List UInt8)} {k : Nat} (hk : k < ns.length) (h : lwL ws (ns.take (k + 1)) = true) : ignN ws ns = true := by
  unfold ignN
  rw [List.any_eq_true]
  exact ⟨k, List.mem_range.2 hk, h⟩
theorem ignN_none {ws : List Wd} {ns : List (List UInt8)} (h : ∀ k, k < ns.length → lwL ws (ns.take (k + 1)) = false) : ignN ws ns = false := by
  unfold ignN
  rw [List.any_eq_false]
  intro k hk
  rw [h k (List.mem_range.1 hk)]
  simp
end GI
end Go.Proofs.YtechekdiadpmoaaDoor
end
section
/- Layer 2: what ** does, over lists of bytes (no program is read here). -/
namespace Go.Proofs.YtechekdiadpmoaaDoor.GP
open Go

theorem spGo_shift : ∀ (n : Nat) (l : List UInt8) (a : Nat), spGo n l a = (spGo n l 0).map (· + a)
  | 0, _, _ => rfl
  | n + 1, l, a => by
    unfold spGo
    by_cases h0 : l = []
    · rw [if_pos h0, if_pos h0]; rfl
    · rw [if_neg h0, if_neg h0]
      split
      · simp
      · rw [spGo_shift n _ (a + (Lib.decodeL l).2), spGo_shift n _ (0 + (Lib.decodeL l).2)]
        cases spGo n (l.drop (Lib.decodeL l).2) 0 with
        | none => rfl
        | some k => simp; omega
theorem spR_shift (l : List UInt8) (a : Nat) : spR l a = (spR l 0).map (· + a) := spGo_shift _ l a
theorem spR_none (l : List UInt8) (a : Nat) : spR l a = none ↔ spR l 0 = none := by
  rw [spR_shift]
  cases spR l 0 <;> simp
theorem spR_ascii (x : UInt8) (l : List UInt8) (a : Nat) (hx : x.toNat < 128) : spR (x :: l) a = spR l (a + 1) := by
  rw [spR_step (by simp), Lib.decodeL_ascii x l hx, if_neg (by
    rintro ⟨h, _⟩
    simp only at h
    omega)]
  rfl
theorem patL_ok {l : List UInt8} (h0 : l ≠ []) (h4 : l.length ≤ 400) (hs : spR l 0 = none) : patL l = match psR (NP.cutOn l) 0 [] with
    | .error k => .error (min k (l.length - 1))
    | .ok ps => .ok ps := by
  unfold patL
  rw [if_neg (by intro h; rcases h with h | h; exact h0 h; omega), hs]
  cases psR (NP.cutOn l) 0 [] <;> rfl
theorem patL_parts {l : List UInt8} {ps : List Pt} (h : patL l = .ok ps) : l ≠ [] ∧ l.length ≤ 400 ∧ spR l 0 = none ∧ psR (NP.cutOn l) 0 [] = .ok ps := by
  unfold patL at h
  split at h
  · simp at h
  · rename_i h0
    split at h
    · simp at h
    · rename_i hs
      split at h
      · simp at h
      · rename_i qs hq
        simp at h
        subst h
        exact ⟨fun e => h0 (.inl e), by omega, hs, hq⟩
/-- One part alone. -/
theorem patL_one {l : List UInt8} (hn : 47 ∉ l) {ps : List Pt} (h : patL l = .ok ps) : ∃ p, ptL l = .ok p ∧ ps = [p] := by
  obtain ⟨_, _, _, h3⟩ := patL_parts h
  rw [NP.cutOn_none hn] at h3
  unfold psR at h3
  split at h3
  · simp at h3
  · rename_i p hp
    simp [psR] at h3
    exact ⟨p, hp, h3.symm⟩
/-- ** and '/' ahead of one part. -/
theorem patL_stars {l : List UInt8} (hn : 47 ∉ l) (h4 : l.length ≤ 40) {p : Pt} (h : patL l = .ok [p]) : patL (42 :: 42 :: 47 :: l) = .ok [.stars, p] := by
  obtain ⟨h0, _, hs, h3⟩ := patL_parts h
  have hp : ptL l = .ok p := by
    obtain ⟨q, hq, e⟩ := patL_one hn h
    rw [hq]
    simp at e
    rw [e]
  rw [patL_ok (by simp) (by simp; omega)]
  · have hc : NP.cutOn (42 :: 42 :: 47 :: l) = [[42, 42], l] := by
      simp [NP.cutOn, NP.cutOn_none hn]
    rw [hc]
    have h2 : ptL [42, 42] = .ok .stars := by simp [ptL]
    simp only [psR, h2, hp]
    rfl
  · rw [spR_ascii _ _ _ (by decide), spR_ascii _ _ _ (by decide), spR_ascii _ _ _ (by decide), spR_none]
    exact hs
theorem mat_last (els : List El) : ∀ ns : List (List UInt8), ns ≠ [] → anyTail (mat [.one els]) ns = mat [.one els] (lastOnly ns)
  | [], h => absurd rfl h
  | [n], _ => by
    show (mat [.one els] [n] || anyTail (mat [.one els]) []) = mat [.one els] [n]
    show (mat [.one els] [n] || false) = _
    simp
  | n :: m :: ns, _ => by
    have ih := mat_last els (m :: ns) (by simp)
    have e : lastOnly (n :: m :: ns) = lastOnly (m :: ns) := by
      unfold lastOnly
      simp only [List.length_cons, Nat.add_sub_cancel]
      rfl
    rw [e, ← ih]
    show (mat [.one els] (n :: m :: ns) || anyTail (mat [.one els]) (m :: ns)) = _
    have : mat [.one els] (n :: m :: ns) = false := by
      show (fitsL els n && (m :: ns).isEmpty) = false
      simp
    rw [this]
    rfl
theorem any_empty {α : Type} : ∀ l : List α, anyTail (fun ns => ns.isEmpty) l = true
  | [] => rfl
  | x :: l => by
    show ((x :: l).isEmpty || anyTail (fun ns => ns.isEmpty) l) = true
    rw [any_empty l]
    simp
theorem fit_star (rs : List Nat) : fit [.star] rs = true := any_empty rs
theorem lastOnly_one {α : Type} : ∀ (l : List α), l ≠ [] → ∃ x, lastOnly l = [x]
  | [], h => absurd rfl h
  | [x], _ => ⟨x, rfl⟩
  | x :: y :: l, _ => by
    obtain ⟨z, hz⟩ := lastOnly_one (y :: l) (by simp)
    refine ⟨z, ?_⟩
    rw [← hz]
    unfold lastOnly
    simp only [List.length_cons, Nat.add_sub_cancel]
    rfl
theorem mat_star_last {ns : List (List UInt8)} (h : ns ≠ []) : mat [.one [.star]] (lastOnly ns) = true := by
  obtain ⟨x, hx⟩ := lastOnly_one ns h
  rw [hx]
  show (fit [.star] (runes x) && true) = true
  rw [fit_star]
  rfl
theorem names_ne {q : List UInt8} (h : NP.pathL q = true) : namesL q ≠ [] := by
  unfold namesL
  rw [if_pos h]
  exact NP.cutOn_ne q
theorem pat2 : patL [42, 42] = .ok [.stars] := by rfl
theorem pat1 : patL [42] = .ok [.one [.star]] := by rfl
theorem pat4 : patL [42, 42, 47, 42] = .ok [.stars, .one [.star]] := by rfl
theorem stars_all {q : List UInt8} (h : NP.pathL q = true) : matL [42, 42] q = true := by
  unfold matL
  rw [pat2]
  show (decide (namesL q ≠ []) && mat [.stars] (lastOnly (namesL q))) = true
  rw [decide_eq_true (names_ne h)]
  exact any_empty _
theorem star_all {q : List UInt8} (h : NP.pathL q = true) : matL [42] q = true := by
  unfold matL
  rw [pat1]
  show (decide (namesL q ≠ []) && mat [.one [.star]] (lastOnly (namesL q))) = true
  rw [decide_eq_true (names_ne h), mat_star_last (names_ne h)]
  rfl
theorem stars_star_all {q : List UInt8} (h : NP.pathL q = true) : matL [42, 42, 47, 42] q = true := by
  unfold matL
  rw [pat4]
  show (decide (namesL q ≠ []) && anyTail (mat [.one [.star]]) (namesL q)) = true
  rw [decide_eq_true (names_ne h), mat_last _ _ (names_ne h), mat_star_last (names_ne h)]
  rfl
/-- ** ahead of a pattern of one part matches it at any depth. -/
theorem stars_deep {l q : List UInt8} (h : NP.pathL q = true) (hn : 47 ∉ l) (h4 : l.length ≤ 40) {ps : List Pt} (hp : patL l = .ok ps) (hne : l ≠ [42, 42]) : matL (42 :: 42 :: 47 :: l) q = matL l q := by
  obtain ⟨p, hpt, rfl⟩ := patL_one hn hp
  unfold matL
  rw [patL_stars hn h4 hp, hp]
  show (decide (namesL q ≠ []) && anyTail (mat [p]) (namesL q)) = (decide (namesL q ≠ []) && mat [p] (lastOnly (namesL q)))
  cases p with
  | stars =>
    exfalso
    unfold ptL at hpt
    by_cases h0 : l = []
    · rw [if_pos h0] at hpt; cases hpt
    · rw [if_neg h0, if_neg hne] at hpt
      cases hr : ptR l 0 [] with
      | error k => rw [hr] at hpt; cases hpt
      | ok els => rw [hr] at hpt; cases hpt
  | one els => rw [mat_last _ _ (names_ne h)]
end Go.Proofs.YtechekdiadpmoaaDoor.GP
end
section
/- Layer 2: what rules ignore, along a path and down from it (no program is read here). -/
namespace Go.Proofs.YtechekdiadpmoaaDoor
open Go
namespace GI
open GP GH

theorem cutOn_app : ∀ (u t : List UInt8), NP.cutOn (u ++ 47 :: t) = NP.cutOn u ++ NP.cutOn t
  | [], t => by
    show NP.cutOn (47 :: t) = [[]] ++ NP.cutOn t
    unfold NP.cutOn
    rw [if_pos rfl]
    cases t <;> rfl
  | x :: u, t => by
    have ih := cutOn_app u t
    show NP.cutOn (x :: (u ++ 47 :: t)) = _
    rw [NP.cutOn, NP.cutOn, ih]
    by_cases hx : x = 47
    · rw [if_pos hx, if_pos hx]; rfl
    · rw [if_neg hx, if_neg hx]
      obtain ⟨a, r, e⟩ := List.exists_cons_of_ne_nil (NP.cutOn_ne u)
      rw [e]
      rfl
/- the last word -/
def lwFrom (b : Bool) (ws : List Wd) (ns : List (List UInt8)) : Bool := ws.foldl (fun b d => if matchL d.2 ns = true then d.1 else b) b
theorem lwFrom_app (b : Bool) (ws vs : List Wd) (ns : List (List UInt8)) : lwFrom b (ws ++ vs) ns = lwFrom (lwFrom b ws ns) vs ns := by
  unfold lwFrom
  rw [List.foldl_append]
theorem lwFrom_cases : ∀ (ws : List Wd) (ns : List (List UInt8)), (∀ b, lwFrom b ws ns = b) ∨ (∀ b c, lwFrom b ws ns = lwFrom c ws ns)
  | [], _ => .inl fun _ => rfl
  | d :: ws, ns => by
    rcases lwFrom_cases ws ns with h | h
    · by_cases hm : matchL d.2 ns = true
      · right
        intro b c
        show lwFrom (if matchL d.2 ns = true then d.1 else b) ws ns = lwFrom (if matchL d.2 ns = true then d.1 else c) ws ns
        rw [if_pos hm, if_pos hm]
      · left
        intro b
        show lwFrom (if matchL d.2 ns = true then d.1 else b) ws ns = b
        rw [if_neg hm, h]
    · right
      intro b c
      exact h _ _
theorem lw_twice (ws : List Wd) (ns : List (List UInt8)) : lwL (ws ++ ws) ns = lwL ws ns := by
  show lwFrom false (ws ++ ws) ns = lwFrom false ws ns
  rw [lwFrom_app]
  rcases lwFrom_cases ws ns with h | h
  · rw [h]
  · exact h _ _
theorem lw_last (ws : List Wd) (d : Wd) (ns : List (List UInt8)) : lwL (ws ++ [d]) ns = if matchL d.2 ns = true then d.1 else lwL ws ns := by
  show lwFrom false (ws ++ [d]) ns = _
  rw [lwFrom_app]
  rfl
theorem rdL_app (a b : List Rl) : rdL (a ++ b) = rdL a ++ rdL b := by unfold rdL; rw [List.filterMap_append]
theorem rdL_one (r : Rl) : rdL [r] = match patL r.2.data.toList with
    | .error _ => []
    | .ok ps => [(r.1, ps)] := by
  unfold rdL
  cases hp : patL r.2.data.toList <;> simp [hp]
theorem ign_twice (rs : List Rl) (q : List UInt8) : ignL (rs ++ rs) q = ignL rs q := by
  unfold ignL ignN
  rw [rdL_app]
  congr 1
  funext k
  exact lw_twice _ _
theorem ignN_iff {ws : List Wd} {ns : List (List UInt8)} : ignN ws ns = true ↔ ∃ k, k < ns.length ∧ lwL ws (ns.take (k + 1)) = true := by
  unfold ignN
  rw [List.any_eq_true]
  constructor
  · rintro ⟨k, h1, h2⟩; exact ⟨k, List.mem_range.1 h1, h2⟩
  · rintro ⟨k, h1, h2⟩; exact ⟨k, List.mem_range.2 h1, h2⟩
theorem ignN_pre {ws : List Wd} {ns ms : List (List UInt8)} (h : ignN ws ns = true) : ignN ws (ns ++ ms) = true := by
  obtain ⟨k, h1, h2⟩ := ignN_iff.1 h
  refine ignN_iff.2 ⟨k, by rw [List.length_append]; omega, ?_⟩
  rw [List.take_append_of_le_length (by omega)]
  exact h2
theorem ign_path {rs : List Rl} {q : List UInt8} (h : ignL rs q = true) : NP.pathL q = true := by
  cases hp : NP.pathL q
  · unfold ignL at h; rw [names_no hp] at h; cases h
  · rfl
/-- Below what is ignored all is ignored. -/
theorem ign_below {rs : List Rl} {q n : List UInt8} (h : ignL rs q = true) (hp : NP.pathL (q ++ 47 :: n) = true) : ignL rs (q ++ 47 :: n) = true := by
  have hq := ign_path h
  unfold ignL at h ⊢
  rw [names_yes hp, cutOn_app]
  rw [names_yes hq] at h
  exact ignN_pre h
/- upwards -/
theorem path_of_parts {l : List UInt8} : NP.pathL l = true ↔ l.length ≤ 400 ∧ l.count 47 < 16 ∧ NP.allL (NP.cutOn l) = true := by
  unfold NP.pathL
  rw [NP.split_eq]
  simp only [Bool.and_eq_true, decide_eq_true_eq, and_assoc]
theorem name_ne {l : List UInt8} (h : NP.nameL l = true) : l ≠ [] := by
  rintro rfl
  cases h
theorem up_path {q : List UInt8} (hp : NP.pathL q = true) (h : NP.upL q ≠ []) : NP.pathL (NP.upL q) = true ∧ NP.cutOn q = NP.cutOn (NP.upL q) ++ [NP.lastL q] ∧ (NP.upL q).length < q.length ∧ q = NP.upL q ++ 47 :: NP.lastL q := by
  rcases NP.parts q with h0 | ⟨u, t, rfl, h0⟩
  · exact absurd (NP.upL_none h0) h
  · rw [NP.upL_snoc h0, NP.lastL_snoc h0]
    obtain ⟨h1, h2, h3⟩ := path_of_parts.1 hp
    rw [NP.cutOn_snoc h0] at h3 ⊢
    refine ⟨path_of_parts.2 ⟨?_, ?_, ?_⟩, rfl, by simp <;> omega, rfl⟩
    · simp at h1; omega
    · simp at h2; omega
    · unfold NP.allL at h3 ⊢
      rw [List.all_append, Bool.and_eq_true] at h3
      exact h3.1
/-- Where nothing is above there is one name. -/
theorem up_none {q : List UInt8} (hp : NP.pathL q = true) (h : NP.upL q = []) : (NP.cutOn q).length = 1 := by
  rcases NP.parts q with h0 | ⟨u, t, rfl, h0⟩
  · rw [NP.cutOn_none h0]; rfl
  · rw [NP.upL_snoc h0] at h
    subst h
    exfalso
    obtain ⟨_, _, h3⟩ := path_of_parts.1 hp
    rw [NP.cutOn_snoc h0] at h3
    unfold NP.allL at h3
    rw [List.all_append, Bool.and_eq_true] at h3
    have h4 := h3.1
    simp only [NP.cutOn, List.all_cons, List.all_nil, Bool.and_true] at h4
    exact name_ne h4 rfl
/-- p is a path above q, or q itself. -/
def Over (q p : List UInt8) : Prop := NP.pathL p = true ∧ ∃ ms, NP.cutOn q = NP.cutOn p ++ ms
theorem over_self {q : List UInt8} (h : NP.pathL q = true) : Over q q := ⟨h, [], by simp⟩
theorem over_up {q p : List UInt8} (h : Over q p) (hne : NP.upL p ≠ []) : Over q (NP.upL p) := by
  obtain ⟨h1, ms, h2⟩ := h
  obtain ⟨h3, h4, _⟩ := up_path h1 hne
  exact ⟨h3, NP.lastL p :: ms, by rw [h2, h4]; simp⟩
theorem ign_over {rs : List Rl} {q p : List UInt8} (hq : NP.pathL q = true) (ho : Over q p) (h : ignL rs p = true) : ignL rs q = true := by
  obtain ⟨h1, ms, h2⟩ := ho
  unfold ignL at h ⊢
  rw [names_yes hq, h2]
  rw [names_yes h1] at h
  exact ignN_pre h
/-- Where nothing above is ignored, the last word on q is all. -/
theorem ign_word {ws : List Wd} {ns : List (List UInt8)} {x : List UInt8} (h : ignN ws ns = false) : ignN ws (ns ++ [x]) = lwL ws (ns ++ [x]) := by
  cases hl : lwL ws (ns ++ [x])
  · cases hi : ignN ws (ns ++ [x])
    · rfl
    · exfalso
      obtain ⟨k, h1, h2⟩ := ignN_iff.1 hi
      rw [List.length_append] at h1
      simp at h1
      by_cases hk : k < ns.length
      · have : ignN ws ns = true := ignN_iff.2 ⟨k, hk, by rw [List.take_append_of_le_length (by omega)] at h2; exact h2⟩
        rw [h] at this
        cases this
      · rw [List.take_of_length_le (by simp; omega), hl] at h2
        cases h2
  · exact ignN_iff.2 ⟨ns.length, by simp, by rw [List.take_of_length_le (by simp)]; exact hl⟩
theorem ign_last_word {rs : List Rl} {last : Rl} {q : List UInt8} (hq : NP.pathL q = true) (hm : matL last.2.data.toList q = true) (hup : NP.upL q = [] ∨ ignL (rs ++ [last]) (NP.upL q) = false) : ignL (rs ++ [last]) q = last.1 := by
  have hn := names_yes hq
  unfold matL at hm
  split at hm
  · cases hm
  · rename_i ps hps
    rw [hn] at hm
    rw [Bool.and_eq_true] at hm
    have hrd : rdL (rs ++ [last]) = rdL rs ++ [(last.1, ps)] := by rw [rdL_app, rdL_one, hps]
    have hlw : lwL (rdL (rs ++ [last])) (NP.cutOn q) = last.1 := by rw [hrd, lw_last, if_pos hm.2]
    by_cases hu : NP.upL q = []
    · have h1 := up_none hq hu
      obtain ⟨x, hx⟩ := List.length_eq_one_iff.1 h1
      have := ign_word (ws := rdL (rs ++ [last])) (ns := []) (x := x) rfl
      unfold ignL
      rw [hn, hx]
      rw [hx] at hlw
      rw [show ([x] : List (List UInt8)) = [] ++ [x] from rfl, this]
      exact hlw
    · obtain ⟨h3, h4, _⟩ := up_path hq hu
      have h5 : ignL (rs ++ [last]) (NP.upL q) = false := by
        rcases hup with h | h
        · exact absurd h hu
        · exact h
      unfold ignL at h5 ⊢
      rw [names_yes h3] at h5
      rw [hn, h4, ign_word h5, ← h4]
      exact hlw
/-- A rule that matches neither q nor a path above it. -/
def Silent (more : Rl) (q : List UInt8) (j : Nat) : Prop := ∀ ps, patL more.2.data.toList = .ok ps → ∀ i, j < i → i ≤ (NP.cutOn q).length → matchL ps ((NP.cutOn q).take i) = false
theorem silent_start (more : Rl) (q : List UInt8) : Silent more q (NP.cutOn q).length := fun _ _ i h1 h2 => by omega
theorem silent_step {more : Rl} {q p : List UInt8} (ho : Over q p) (h : Silent more q (NP.cutOn p).length) (hm : matL more.2.data.toList p = false) {j : Nat} (hj : (NP.cutOn p).length = j + 1) : Silent more q j := by
  intro ps hps i h1 h2
  by_cases hi : j + 1 < i
  · exact h ps hps i (by omega) h2
  · obtain rfl : i = j + 1 := by omega
    obtain ⟨hp, ms, h3⟩ := ho
    rw [h3, List.take_append_of_le_length (by omega), List.take_of_length_le (by omega)]
    unfold matL at hm
    rw [hps] at hm
    simp only at hm
    rw [names_yes hp] at hm
    have hne : NP.cutOn p ≠ [] := NP.cutOn_ne p
    simpa [hne] using hm
theorem ign_silent {rs : List Rl} {more : Rl} {q : List UInt8} (hq : NP.pathL q = true) (h : Silent more q 0) : ignL (rs ++ [more]) q = ignL rs q := by
  unfold ignL
  rw [rdL_app, rdL_one, names_yes hq]
  cases hp : patL more.2.data.toList with
  | error f => simp
  | ok ps =>
    unfold ignN
    apply Bool.eq_iff_iff.2
    rw [List.any_eq_true, List.any_eq_true]
    have key : ∀ k, k < (NP.cutOn q).length → lwL (rdL rs ++ [(more.1, ps)]) ((NP.cutOn q).take (k + 1)) = lwL (rdL rs) ((NP.cutOn q).take (k + 1)) := by
      intro k hk
      rw [lw_last, if_neg (by rw [h ps hp (k + 1) (by omega) (by omega)]; simp)]
    constructor
    · rintro ⟨k, h1, h2⟩
      exact ⟨k, h1, by rw [← key k (List.mem_range.1 h1)]; exact h2⟩
    · rintro ⟨k, h1, h2⟩
      exact ⟨k, h1, by rw [key k (List.mem_range.1 h1)]; exact h2⟩
end GI
end Go.Proofs.YtechekdiadpmoaaDoor
end
