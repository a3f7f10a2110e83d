/- Layer 1's answers over lists of bytes: a name, a path, the order of paths, what is within a path; and the plain facts about them (no program is read here). -/
import Derived.Lib.ValidU
import Derived.Lib.Split
import Derived.Lib.SplitLaws
import Derived.Lib.Strings
namespace Go.Proofs.YtjkikkpbeceeeaaGreatDoor.NP
open Go

def noneOf (l : List UInt8) : Bool := !(l.contains 47 || l.contains 0)
def nameL (l : List UInt8) : Bool := decide (l ≠ []) && decide (l.length ≤ 64) && decide (l ≠ [46]) && decide (l ≠ [46, 46]) && Lib.validD l && noneOf l
def allL (ls : List (List UInt8)) : Bool := ls.all nameL
def pathL (l : List UInt8) : Bool := decide (l.length ≤ 400) && decide (l.count 47 < 16) && allL (Lib.split l [47])
def rk (c : UInt8) : Nat := if c = 47 then 0 else c.toNat + 1
def cmpN (x y : Nat) : Int := if x < y then -1 else if y < x then 1 else 0
def ordN : List Nat → List Nat → Int
  | [], [] => 0
  | [], _ :: _ => -1
  | _ :: _, [] => 1
  | x :: xs, y :: ys => if x < y then -1 else if y < x then 1 else ordN xs ys
def ordL (a b : List UInt8) : Int := ordN (a.map rk) (b.map rk)
def restOk (q r : List UInt8) : Bool := decide (q = []) || decide (r = []) || decide (r.head? = some 47)
def withinL (p q : List UInt8) : Bool := pathL p && (Lib.hasPrefix p q && restOk q (p.drop q.length))

theorem rk_inj {x y : UInt8} (h : rk x = rk y) : x = y := by
  unfold rk at h
  split at h <;> split at h
  · simp_all
  · omega
  · omega
  · apply UInt8.toNat_inj.1; omega
theorem map_rk_inj : ∀ {a b : List UInt8}, a.map rk = b.map rk → a = b
  | [], [], _ => rfl
  | [], _ :: _, h => by simp at h
  | _ :: _, [], h => by simp at h
  | x :: a, y :: b, h => by
    simp only [List.map_cons, List.cons.injEq] at h
    rw [rk_inj h.1, map_rk_inj h.2]

theorem ordN_cases : ∀ a b : List Nat, ordN a b = -1 ∨ ordN a b = 0 ∨ ordN a b = 1
  | [], [] => by simp [ordN]
  | [], _ :: _ => by simp [ordN]
  | _ :: _, [] => by simp [ordN]
  | x :: a, y :: b => by
    unfold ordN
    split
    · simp
    · split
      · simp
      · exact ordN_cases a b
theorem ordN_swap : ∀ a b : List Nat, ordN b a = -ordN a b
  | [], [] => by simp [ordN]
  | [], _ :: _ => by simp [ordN]
  | _ :: _, [] => by simp [ordN]
  | x :: a, y :: b => by
    unfold ordN
    by_cases h : x < y
    · rw [if_pos h, if_neg (by omega), if_pos h]; rfl
    · by_cases h2 : y < x
      · rw [if_pos h2, if_neg h, if_pos h2]
      · rw [if_neg h2, if_neg h, if_neg h, if_neg h2]; exact ordN_swap a b
theorem ordN_self : ∀ a : List Nat, ordN a a = 0
  | [] => rfl
  | x :: a => by unfold ordN; rw [if_neg (by omega), if_neg (by omega)]; exact ordN_self a
theorem ordN_eq : ∀ {a b : List Nat}, ordN a b = 0 → a = b
  | [], [], _ => rfl
  | [], _ :: _, h => by simp [ordN] at h
  | _ :: _, [], h => by simp [ordN] at h
  | x :: a, y :: b, h => by
    unfold ordN at h
    split at h
    · omega
    · split at h
      · omega
      · have : x = y := by omega
        rw [this, ordN_eq h]
theorem ordN_trans : ∀ {a b c : List Nat}, ordN a b ≤ 0 → ordN b c ≤ 0 → ordN a c ≤ 0
  | [], _, [], _, _ => by simp [ordN]
  | [], _, _ :: _, _, _ => by simp [ordN]
  | _ :: _, [], _, h, _ => by simp [ordN] at h
  | _ :: _, _ :: _, [], _, h => by simp [ordN] at h
  | x :: a, y :: b, z :: c, h, k => by
    unfold ordN at h k ⊢
    by_cases h1 : x < z
    · rw [if_pos h1]; omega
    · rw [if_neg h1]
      by_cases hxy : x < y
      · have hyz : z < y := by omega
        rw [if_neg (by omega), if_pos hyz] at k; omega
      · rw [if_neg hxy] at h
        by_cases hyx : y < x
        · rw [if_pos hyx] at h; omega
        · rw [if_neg hyx] at h
          have e : x = y := by omega
          subst e
          rw [if_neg h1] at k
          by_cases hzx : z < x
          · rw [if_pos hzx] at k; omega
          · rw [if_neg hzx] at k ⊢
            exact ordN_trans h k
theorem ordL_cases (a b : List UInt8) : ordL a b = -1 ∨ ordL a b = 0 ∨ ordL a b = 1 := ordN_cases _ _
theorem ordL_swap (a b : List UInt8) : ordL b a = -ordL a b := ordN_swap _ _
theorem ordL_zero (a b : List UInt8) : ordL a b = 0 ↔ a = b := ⟨fun h => map_rk_inj (ordN_eq h), fun h => by subst h; exact ordN_self _⟩
theorem ordL_trans {a b c : List UInt8} (h : ordL a b ≤ 0) (k : ordL b c ≤ 0) : ordL a c ≤ 0 := ordN_trans h k
theorem ordL_lt {a b c : List UInt8} (h : ordL a b < 0) (k : ordL b c ≤ 0) : ordL a c < 0 := by
  have h1 := ordL_trans (Int.le_of_lt h) k
  rcases ordL_cases a c with e | e | e
  · omega
  · have := (ordL_zero a c).1 e
    subst this
    have := ordL_swap a b
    omega
  · omega

/- the loop's two ends -/
theorem ordN_append : ∀ (p a b : List Nat), ordN (p ++ a) (p ++ b) = ordN a b
  | [], _, _ => rfl
  | x :: p, a, b => by
    simp only [List.cons_append]
    rw [ordN, if_neg (by omega), if_neg (by omega)]
    exact ordN_append p a b
theorem ordL_append (p a b : List UInt8) : ordL (p ++ a) (p ++ b) = ordL a b := by
  unfold ordL; rw [List.map_append, List.map_append, ordN_append]
theorem ordL_miss {a b : List UInt8} {i : Nat} {x y : UInt8} (h : a.take i = b.take i) (ha : a[i]? = some x) (hb : b[i]? = some y) (hne : x ≠ y) :
    ordL a b = cmpN (rk x) (rk y) := by
  obtain ⟨hi, ha'⟩ := List.getElem?_eq_some_iff.1 ha
  obtain ⟨hj, hb'⟩ := List.getElem?_eq_some_iff.1 hb
  have ea : a = a.take i ++ x :: a.drop (i + 1) := by rw [← ha', ← List.drop_eq_getElem_cons hi, List.take_append_drop]
  have eb : b = a.take i ++ y :: b.drop (i + 1) := by rw [h, ← hb', ← List.drop_eq_getElem_cons hj, List.take_append_drop]
  rw [ea, eb, ordL_append]
  have hr : rk x ≠ rk y := fun e => hne (rk_inj e)
  simp only [ordL, List.map_cons, ordN, cmpN]
  split
  · rfl
  · rw [if_pos (by omega), if_pos (by omega)]
theorem ordL_end {a b : List UInt8} {m : Nat} (hm : m = min a.length b.length) (h : a.take m = b.take m) : ordL a b = cmpN a.length b.length := by
  unfold cmpN
  by_cases h1 : a.length < b.length
  · have e1 : m = a.length := by omega
    rw [e1, List.take_length] at h
    have eb : b = a ++ b.drop a.length := by conv => lhs; rw [← List.take_append_drop a.length b, ← h]
    rw [if_pos h1]
    have hl : b.drop a.length ≠ [] := by intro e; have := congrArg List.length e; simp at this; omega
    obtain ⟨z, r, hz⟩ := List.exists_cons_of_ne_nil hl
    have := ordL_append a [] (b.drop a.length)
    rw [List.append_nil, ← eb, hz] at this
    rw [this]; rfl
  · by_cases h2 : b.length < a.length
    · have e1 : m = b.length := by omega
      rw [e1, List.take_length] at h
      have ea : a = b ++ a.drop b.length := by conv => lhs; rw [← List.take_append_drop b.length a, h]
      rw [if_neg h1, if_pos h2]
      have hl : a.drop b.length ≠ [] := by intro e; have := congrArg List.length e; simp at this; omega
      obtain ⟨z, r, hz⟩ := List.exists_cons_of_ne_nil hl
      have := ordL_append b (a.drop b.length) []
      rw [List.append_nil, ← ea, hz] at this
      rw [this]; rfl
    · rw [if_neg h1, if_neg h2]
      have e1 : m = a.length := by omega
      have e2 : a.length = b.length := by omega
      rw [e1, List.take_length, e2, List.take_length] at h
      exact (ordL_zero a b).2 h

/- what is within a stands right behind a -/
theorem between {a b c : List UInt8} (hb : pathL b = true) (hw : withinL c a = true) (hx : ordL a b < 0) (hy : ordL b c < 0) : withinL b a = true := by
  unfold withinL at hw ⊢
  simp only [Bool.and_eq_true] at hw
  obtain ⟨_, hp, hr⟩ := hw
  unfold Lib.hasPrefix at hp ⊢
  rw [List.isPrefixOf_iff_prefix] at hp
  obtain ⟨r, rfl⟩ := hp
  rw [List.drop_left] at hr
  rw [hb, Bool.true_and]
  by_cases hpre : a <+: b
  · obtain ⟨s, rfl⟩ := hpre
    rw [Bool.and_eq_true, List.isPrefixOf_iff_prefix]
    refine ⟨⟨s, rfl⟩, ?_⟩
    rw [List.drop_left]
    rw [ordL_append] at hy
    unfold restOk at hr ⊢
    simp only [Bool.or_eq_true, decide_eq_true_eq] at hr ⊢
    rcases hr with (hr | hr) | hr
    · exact .inl (.inl hr)
    · subst hr
      cases s with
      | nil => exact .inl (.inr rfl)
      | cons z s => simp [ordL, ordN] at hy
    · cases r with
      | nil => simp at hr
      | cons w r =>
        simp only [List.head?_cons, Option.some.injEq] at hr
        subst hr
        cases s with
        | nil => exact .inl (.inr rfl)
        | cons z s =>
          refine .inr ?_
          by_cases hz : z = 47
          · simp [hz]
          · exfalso
            have h0 : rk 47 = 0 := rfl
            have h1 : 0 < rk z := by unfold rk; rw [if_neg hz]; omega
            simp only [ordL, List.map_cons, ordN] at hy
            rw [h0, if_neg (by omega), if_pos h1] at hy
            omega
  · -- a and b part at a place that both have: so b and a ++ r part there
    exfalso
    have key : ∀ (a b r : List UInt8), ¬ a <+: b → ordL a b < 0 → ¬ ordL b (a ++ r) < 0 := by
      intro a
      induction a with
      | nil => intro b r h _; exact absurd (List.nil_prefix) h
      | cons x a ih =>
        intro b r h h1 h2
        cases b with
        | nil => simp [ordL, ordN] at h1
        | cons y b =>
          simp only [ordL, List.map_cons, ordN, List.cons_append] at h1 h2
          by_cases e1 : rk x < rk y
          · rw [if_neg (by omega), if_pos e1] at h2; omega
          · rw [if_neg e1] at h1
            by_cases e2 : rk y < rk x
            · rw [if_pos e2] at h1; omega
            · rw [if_neg e2] at h1
              have e : x = y := rk_inj (by omega)
              subst e
              rw [if_neg (by omega), if_neg (by omega)] at h2
              exact ih b r (fun hp => h (by obtain ⟨t, rfl⟩ := hp; exact ⟨t, rfl⟩)) h1 h2
    exact key a b r hpre hx hy
end Go.Proofs.YtjkikkpbeceeeaaGreatDoor.NP
