/- Layer 2: what rules ignore, along a path and down from it (no program is read here). -/
import Derived.Test.YtkfddnkeoopfbaaDoorGlobIgn
import Derived.Test.YtkfddnkeoopfbaaDoorGlobStarsP
namespace Go.Proofs.YtkfddnkeoopfbaaDoor
open Go
namespace GI
open GP GH

theorem cutOn_app : ∀ (u t : List UInt8), NP.cutOn (u ++ 47 :: t) = NP.cutOn u ++ NP.cutOn t
  | [], t => by
    show NP.cutOn (47 :: t) = [[]] ++ NP.cutOn t
    unfold NP.cutOn
    rw [if_pos rfl]
    cases t <;> rfl
  | x :: u, t => by
    have ih := cutOn_app u t
    show NP.cutOn (x :: (u ++ 47 :: t)) = _
    rw [NP.cutOn, NP.cutOn, ih]
    by_cases hx : x = 47
    · rw [if_pos hx, if_pos hx]; rfl
    · rw [if_neg hx, if_neg hx]
      obtain ⟨a, r, e⟩ := List.exists_cons_of_ne_nil (NP.cutOn_ne u)
      rw [e]
      rfl
/- the last word -/
def lwFrom (b : Bool) (ws : List Wd) (ns : List (List UInt8)) : Bool := ws.foldl (fun b d => if matchL d.2 ns = true then d.1 else b) b
theorem lwFrom_app (b : Bool) (ws vs : List Wd) (ns : List (List UInt8)) : lwFrom b (ws ++ vs) ns = lwFrom (lwFrom b ws ns) vs ns := by
  unfold lwFrom
  rw [List.foldl_append]
theorem lwFrom_cases : ∀ (ws : List Wd) (ns : List (List UInt8)), (∀ b, lwFrom b ws ns = b) ∨ (∀ b c, lwFrom b ws ns = lwFrom c ws ns)
  | [], _ => .inl fun _ => rfl
  | d :: ws, ns => by
    rcases lwFrom_cases ws ns with h | h
    · by_cases hm : matchL d.2 ns = true
      · right
        intro b c
        show lwFrom (if matchL d.2 ns = true then d.1 else b) ws ns = lwFrom (if matchL d.2 ns = true then d.1 else c) ws ns
        rw [if_pos hm, if_pos hm]
      · left
        intro b
        show lwFrom (if matchL d.2 ns = true then d.1 else b) ws ns = b
        rw [if_neg hm, h]
    · right
      intro b c
      exact h _ _
theorem lw_twice (ws : List Wd) (ns : List (List UInt8)) : lwL (ws ++ ws) ns = lwL ws ns := by
  show lwFrom false (ws ++ ws) ns = lwFrom false ws ns
  rw [lwFrom_app]
  rcases lwFrom_cases ws ns with h | h
  · rw [h]
  · exact h _ _
theorem lw_last (ws : List Wd) (d : Wd) (ns : List (List UInt8)) : lwL (ws ++ [d]) ns = if matchL d.2 ns = true then d.1 else lwL ws ns := by
  show lwFrom false (ws ++ [d]) ns = _
  rw [lwFrom_app]
  rfl
theorem rdL_app (a b : List Rl) : rdL (a ++ b) = rdL a ++ rdL b := by unfold rdL; rw [List.filterMap_append]
theorem rdL_one (r : Rl) : rdL [r] = match patL r.2.data.toList with
    | .error _ => []
    | .ok ps => [(r.1, ps)] := by
  unfold rdL
  cases hp : patL r.2.data.toList <;> simp [hp]
theorem ign_twice (rs : List Rl) (q : List UInt8) : ignL (rs ++ rs) q = ignL rs q := by
  unfold ignL ignN
  rw [rdL_app]
  congr 1
  funext k
  exact lw_twice _ _
theorem ignN_iff {ws : List Wd} {ns : List (List UInt8)} : ignN ws ns = true ↔ ∃ k, k < ns.length ∧ lwL ws (ns.take (k + 1)) = true := by
  unfold ignN
  rw [List.any_eq_true]
  constructor
  · rintro ⟨k, h1, h2⟩; exact ⟨k, List.mem_range.1 h1, h2⟩
  · rintro ⟨k, h1, h2⟩; exact ⟨k, List.mem_range.2 h1, h2⟩
theorem ignN_pre {ws : List Wd} {ns ms : List (List UInt8)} (h : ignN ws ns = true) : ignN ws (ns ++ ms) = true := by
  obtain ⟨k, h1, h2⟩ := ignN_iff.1 h
  refine ignN_iff.2 ⟨k, by rw [List.length_append]; omega, ?_⟩
  rw [List.take_append_of_le_length (by omega)]
  exact h2
theorem ign_path {rs : List Rl} {q : List UInt8} (h : ignL rs q = true) : NP.pathL q = true := by
  cases hp : NP.pathL q
  · unfold ignL at h; rw [names_no hp] at h; cases h
  · rfl
/-- Below what is ignored all is ignored. -/
theorem ign_below {rs : List Rl} {q n : List UInt8} (h : ignL rs q = true) (hp : NP.pathL (q ++ 47 :: n) = true) : ignL rs (q ++ 47 :: n) = true := by
  have hq := ign_path h
  unfold ignL at h ⊢
  rw [names_yes hp, cutOn_app]
  rw [names_yes hq] at h
  exact ignN_pre h
/- upwards -/
theorem path_of_parts {l : List UInt8} : NP.pathL l = true ↔ l.length ≤ 400 ∧ l.count 47 < 16 ∧ NP.allL (NP.cutOn l) = true := by
  unfold NP.pathL
  rw [NP.split_eq]
  simp only [Bool.and_eq_true, decide_eq_true_eq, and_assoc]
theorem name_ne {l : List UInt8} (h : NP.nameL l = true) : l ≠ [] := by
  rintro rfl
  cases h
theorem up_path {q : List UInt8} (hp : NP.pathL q = true) (h : NP.upL q ≠ []) : NP.pathL (NP.upL q) = true ∧ NP.cutOn q = NP.cutOn (NP.upL q) ++ [NP.lastL q] ∧ (NP.upL q).length < q.length ∧ q = NP.upL q ++ 47 :: NP.lastL q := by
  rcases NP.parts q with h0 | ⟨u, t, rfl, h0⟩
  · exact absurd (NP.upL_none h0) h
  · rw [NP.upL_snoc h0, NP.lastL_snoc h0]
    obtain ⟨h1, h2, h3⟩ := path_of_parts.1 hp
    rw [NP.cutOn_snoc h0] at h3 ⊢
    refine ⟨path_of_parts.2 ⟨?_, ?_, ?_⟩, rfl, by simp <;> omega, rfl⟩
    · simp at h1; omega
    · simp at h2; omega
    · unfold NP.allL at h3 ⊢
      rw [List.all_append, Bool.and_eq_true] at h3
      exact h3.1
/-- Where nothing is above there is one name. -/
theorem up_none {q : List UInt8} (hp : NP.pathL q = true) (h : NP.upL q = []) : (NP.cutOn q).length = 1 := by
  rcases NP.parts q with h0 | ⟨u, t, rfl, h0⟩
  · rw [NP.cutOn_none h0]; rfl
  · rw [NP.upL_snoc h0] at h
    subst h
    exfalso
    obtain ⟨_, _, h3⟩ := path_of_parts.1 hp
    rw [NP.cutOn_snoc h0] at h3
    unfold NP.allL at h3
    rw [List.all_append, Bool.and_eq_true] at h3
    have h4 := h3.1
    simp only [NP.cutOn, List.all_cons, List.all_nil, Bool.and_true] at h4
    exact name_ne h4 rfl
/-- p is a path above q, or q itself. -/
def Over (q p : List UInt8) : Prop := NP.pathL p = true ∧ ∃ ms, NP.cutOn q = NP.cutOn p ++ ms
theorem over_self {q : List UInt8} (h : NP.pathL q = true) : Over q q := ⟨h, [], by simp⟩
theorem over_up {q p : List UInt8} (h : Over q p) (hne : NP.upL p ≠ []) : Over q (NP.upL p) := by
  obtain ⟨h1, ms, h2⟩ := h
  obtain ⟨h3, h4, _⟩ := up_path h1 hne
  exact ⟨h3, NP.lastL p :: ms, by rw [h2, h4]; simp⟩
theorem ign_over {rs : List Rl} {q p : List UInt8} (hq : NP.pathL q = true) (ho : Over q p) (h : ignL rs p = true) : ignL rs q = true := by
  obtain ⟨h1, ms, h2⟩ := ho
  unfold ignL at h ⊢
  rw [names_yes hq, h2]
  rw [names_yes h1] at h
  exact ignN_pre h
/-- Where nothing above is ignored, the last word on q is all. -/
theorem ign_word {ws : List Wd} {ns : List (List UInt8)} {x : List UInt8} (h : ignN ws ns = false) : ignN ws (ns ++ [x]) = lwL ws (ns ++ [x]) := by
  cases hl : lwL ws (ns ++ [x])
  · cases hi : ignN ws (ns ++ [x])
    · rfl
    · exfalso
      obtain ⟨k, h1, h2⟩ := ignN_iff.1 hi
      rw [List.length_append] at h1
      simp at h1
      by_cases hk : k < ns.length
      · have : ignN ws ns = true := ignN_iff.2 ⟨k, hk, by rw [List.take_append_of_le_length (by omega)] at h2; exact h2⟩
        rw [h] at this
        cases this
      · rw [List.take_of_length_le (by simp; omega), hl] at h2
        cases h2
  · exact ignN_iff.2 ⟨ns.length, by simp, by rw [List.take_of_length_le (by simp)]; exact hl⟩
theorem ign_last_word {rs : List Rl} {last : Rl} {q : List UInt8} (hq : NP.pathL q = true) (hm : matL last.2.data.toList q = true) (hup : NP.upL q = [] ∨ ignL (rs ++ [last]) (NP.upL q) = false) : ignL (rs ++ [last]) q = last.1 := by
  have hn := names_yes hq
  unfold matL at hm
  split at hm
  · cases hm
  · rename_i ps hps
    rw [hn] at hm
    rw [Bool.and_eq_true] at hm
    have hrd : rdL (rs ++ [last]) = rdL rs ++ [(last.1, ps)] := by rw [rdL_app, rdL_one, hps]
    have hlw : lwL (rdL (rs ++ [last])) (NP.cutOn q) = last.1 := by rw [hrd, lw_last, if_pos hm.2]
    by_cases hu : NP.upL q = []
    · have h1 := up_none hq hu
      obtain ⟨x, hx⟩ := List.length_eq_one_iff.1 h1
      have := ign_word (ws := rdL (rs ++ [last])) (ns := []) (x := x) rfl
      unfold ignL
      rw [hn, hx]
      rw [hx] at hlw
      rw [show ([x] : List (List UInt8)) = [] ++ [x] from rfl, this]
      exact hlw
    · obtain ⟨h3, h4, _⟩ := up_path hq hu
      have h5 : ignL (rs ++ [last]) (NP.upL q) = false := by
        rcases hup with h | h
        · exact absurd h hu
        · exact h
      unfold ignL at h5 ⊢
      rw [names_yes h3] at h5
      rw [hn, h4, ign_word h5, ← h4]
      exact hlw
/-- A rule that matches neither q nor a path above it. -/
def Silent (more : Rl) (q : List UInt8) (j : Nat) : Prop := ∀ ps, patL more.2.data.toList = .ok ps → ∀ i, j < i → i ≤ (NP.cutOn q).length → matchL ps ((NP.cutOn q).take i) = false
theorem silent_start (more : Rl) (q : List UInt8) : Silent more q (NP.cutOn q).length := fun _ _ i h1 h2 => by omega
theorem silent_step {more : Rl} {q p : List UInt8} (ho : Over q p) (h : Silent more q (NP.cutOn p).length) (hm : matL more.2.data.toList p = false) {j : Nat} (hj : (NP.cutOn p).length = j + 1) : Silent more q j := by
  intro ps hps i h1 h2
  by_cases hi : j + 1 < i
  · exact h ps hps i (by omega) h2
  · obtain rfl : i = j + 1 := by omega
    obtain ⟨hp, ms, h3⟩ := ho
    rw [h3, List.take_append_of_le_length (by omega), List.take_of_length_le (by omega)]
    unfold matL at hm
    rw [hps] at hm
    simp only at hm
    rw [names_yes hp] at hm
    have hne : NP.cutOn p ≠ [] := NP.cutOn_ne p
    simpa [hne] using hm
theorem ign_silent {rs : List Rl} {more : Rl} {q : List UInt8} (hq : NP.pathL q = true) (h : Silent more q 0) : ignL (rs ++ [more]) q = ignL rs q := by
  unfold ignL
  rw [rdL_app, rdL_one, names_yes hq]
  cases hp : patL more.2.data.toList with
  | error f => simp
  | ok ps =>
    unfold ignN
    apply Bool.eq_iff_iff.2
    rw [List.any_eq_true, List.any_eq_true]
    have key : ∀ k, k < (NP.cutOn q).length → lwL (rdL rs ++ [(more.1, ps)]) ((NP.cutOn q).take (k + 1)) = lwL (rdL rs) ((NP.cutOn q).take (k + 1)) := by
      intro k hk
      rw [lw_last, if_neg (by rw [h ps hp (k + 1) (by omega) (by omega)]; simp)]
    constructor
    · rintro ⟨k, h1, h2⟩
      exact ⟨k, h1, by rw [← key k (List.mem_range.1 h1)]; exact h2⟩
    · rintro ⟨k, h1, h2⟩
      exact ⟨k, h1, by rw [key k (List.mem_range.1 h1)]; exact h2⟩
end GI
end Go.Proofs.YtkfddnkeoopfbaaDoor
