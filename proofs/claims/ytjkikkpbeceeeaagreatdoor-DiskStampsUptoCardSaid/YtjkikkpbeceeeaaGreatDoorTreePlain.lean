/- Layer 6 over lists: nodes, trees, values; what stands at a path, and a tree with another value put there (no program is read here). -/
import Derived.Test.YtjkikkpbeceeeaaGreatDoorTreePath
namespace Go.Proofs.YtjkikkpbeceeeaaGreatDoor.TP
open Go NP

structure Nd where
  path : List UInt8
  kind : Int
  data : List UInt8
  mode : Int
  deriving DecidableEq
def rightB (n : Nd) : Bool :=
  if n.kind = 1 then decide (n.data.length ≤ 65536) && decide (0 ≤ n.mode) && decide (n.mode ≤ 511)
  else if n.kind = 2 then decide (n.data = []) && decide (n.mode = 0)
  else if n.kind = 3 then !(n.data.contains 0) && decide (1 ≤ n.data.length) && decide (n.data.length ≤ 400) && decide (n.mode = 0)
  else false
def findN (t : List Nd) (p : List UInt8) : Option Nd := t.find? fun n => decide (n.path = p)
def dirB (t : List Nd) (p : List UInt8) : Bool := decide (p = []) || (match findN t p with | some n => decide (n.kind = 2) | none => false)
def chainB : List Nd → Bool
  | a :: b :: r => decide (ordL a.path b.path < 0) && chainB (b :: r)
  | _ => true
def nodeB (t : List Nd) (n : Nd) : Bool := pathL n.path && rightB n && dirB t (parentL n.path)
def treeB (t : List Nd) : Bool := decide (t.length ≤ 1000) && t.all (nodeB t) && chainB t
def rightV : List Nd → Bool
  | [] => true
  | h :: r => decide (h.path = []) && rightB h && decide (r.length + 1 ≤ 1000) && (decide (r = []) || (decide (h.kind = 2) && treeB r))
def placeN (p : List UInt8) (n : Nd) : Nd := { n with path := place p n.path }
def cutN (p : List UInt8) (n : Nd) : Nd := { n with path := if n.path = p then [] else n.path.drop (p.length + 1) }
def root : Nd := ⟨[], 2, [], 0⟩
def atL (t : List Nd) (p : List UInt8) : List Nd :=
  if treeB t = true then (if p = [] then root :: t else (t.filter fun n => withinL n.path p).map (cutN p)) else []
def getL (t : List Nd) (p : List UInt8) : Option Nd := if treeB t = true then findN t p else none
def outL (t : List Nd) (p : List UInt8) (v : List Nd) : List Nd :=
  (t.filter fun n => !withinL n.path p && decide (ordL n.path p < 0)) ++ (v.map (placeN p) ++ t.filter fun n => !withinL n.path p && !decide (ordL n.path p < 0))
def putL (t : List Nd) (p : List UInt8) (v : List Nd) : List Nd × Nat :=
  if treeB t = false ∨ rightV v = false then ([], 60)
  else if pathL p = false then ([], 11)
  else if v ≠ [] ∧ dirB t (parentL p) = false then ([], 62)
  else if (v.all fun n => pathL (place p n.path)) = false then ([], 11)
  else if 1000 < (outL t p v).length then ([], 32)
  else (outL t p v, 0)

/- sorted lists -/
def lt (a b : Nd) : Prop := ordL a.path b.path < 0
def Sorted (t : List Nd) : Prop := t.Pairwise lt
theorem chain_iff : ∀ t : List Nd, chainB t = true ↔ Sorted t
  | [] => ⟨fun _ => List.Pairwise.nil, fun _ => rfl⟩
  | [a] => ⟨fun _ => List.pairwise_singleton _ _, fun _ => rfl⟩
  | a :: b :: r => by
    have ih := chain_iff (b :: r)
    rw [chainB, Bool.and_eq_true, decide_eq_true_eq, ih]
    constructor
    · rintro ⟨h1, h2⟩
      refine List.Pairwise.cons (fun c hc => ?_) h2
      rcases List.mem_cons.1 hc with rfl | hc
      · exact h1
      · exact ord_lt h1 (List.rel_of_pairwise_cons h2 hc)
    · intro h
      exact ⟨List.rel_of_pairwise_cons h (List.mem_cons_self ..), List.Pairwise.of_cons h⟩
theorem sorted_ext : ∀ {a b : List Nd}, Sorted a → Sorted b → (∀ n, n ∈ a ↔ n ∈ b) → a = b
  | [], [], _, _, _ => rfl
  | [], y :: b, _, _, h => absurd ((h y).2 (List.mem_cons_self ..)) (by simp)
  | x :: a, [], _, _, h => absurd ((h x).1 (List.mem_cons_self ..)) (by simp)
  | x :: a, y :: b, ha, hb, h => by
    have exy : x = y := by
      rcases List.mem_cons.1 ((h x).1 (List.mem_cons_self ..)) with e | e
      · exact e
      · rcases List.mem_cons.1 ((h y).2 (List.mem_cons_self ..)) with e2 | e2
        · exact e2.symm
        · exact absurd (List.rel_of_pairwise_cons ha e2) (ord_neg (List.rel_of_pairwise_cons hb e))
    subst exy
    rw [sorted_ext (List.Pairwise.of_cons ha) (List.Pairwise.of_cons hb) fun n => ?_]
    constructor
    · intro hn
      rcases List.mem_cons.1 ((h n).1 (List.mem_cons_of_mem _ hn)) with e | e
      · subst e; exact absurd (List.rel_of_pairwise_cons ha hn) (ord_irr _)
      · exact e
    · intro hn
      rcases List.mem_cons.1 ((h n).2 (List.mem_cons_of_mem _ hn)) with e | e
      · subst e; exact absurd (List.rel_of_pairwise_cons hb hn) (ord_irr _)
      · exact e
theorem sorted_one : ∀ {t : List Nd}, Sorted t → ∀ {a b : Nd}, a ∈ t → b ∈ t → a.path = b.path → a = b
  | [], _, a, _, ha, _, _ => by simp at ha
  | x :: r, h, a, b, ha, hb, e => by
    rcases List.mem_cons.1 ha with h1 | h1
    · rcases List.mem_cons.1 hb with h2 | h2
      · rw [h1, h2]
      · have h3 : lt x b := List.rel_of_pairwise_cons h h2
        unfold lt at h3
        rw [← h1, e] at h3
        exact absurd h3 (ord_irr _)
    · rcases List.mem_cons.1 hb with h2 | h2
      · have h3 : lt x a := List.rel_of_pairwise_cons h h1
        unfold lt at h3
        rw [← h2, e] at h3
        exact absurd h3 (ord_irr _)
      · exact sorted_one (List.Pairwise.of_cons h) h1 h2 e
theorem sorted_filter {t : List Nd} (h : Sorted t) (f : Nd → Bool) : Sorted (t.filter f) := List.Pairwise.filter f h

/- what a tree is -/
def Dir (t : List Nd) (p : List UInt8) : Prop := p = [] ∨ ∃ d ∈ t, d.path = p ∧ d.kind = 2
theorem find_mem {t : List Nd} {p : List UInt8} {n : Nd} (h : findN t p = some n) : n ∈ t ∧ n.path = p := by
  unfold findN at h
  have h1 := List.find?_some h
  simp at h1
  exact ⟨List.mem_of_find?_eq_some h, h1⟩
theorem find_of {t : List Nd} (hs : Sorted t) {n : Nd} (h : n ∈ t) : findN t n.path = some n := by
  cases hf : findN t n.path with
  | none =>
    unfold findN at hf
    rw [List.find?_eq_none] at hf
    have := hf n h
    simp at this
  | some m =>
    obtain ⟨h1, h2⟩ := find_mem hf
    rw [sorted_one hs h1 h h2]
theorem dir_iff {t : List Nd} (hs : Sorted t) (p : List UInt8) : dirB t p = true ↔ Dir t p := by
  unfold dirB Dir
  rw [Bool.or_eq_true, decide_eq_true_eq]
  refine or_congr Iff.rfl ?_
  constructor
  · intro h
    cases hf : findN t p with
    | none => rw [hf] at h; cases h
    | some n =>
      rw [hf] at h
      simp at h
      exact ⟨n, (find_mem hf).1, (find_mem hf).2, h⟩
  · rintro ⟨d, hd, rfl, hk⟩
    rw [find_of hs hd]
    simpa using hk
structure Tree (t : List Nd) : Prop where
  len : t.length ≤ 1000
  sorted : Sorted t
  path : ∀ n ∈ t, pathL n.path = true
  right : ∀ n ∈ t, rightB n = true
  dir : ∀ n ∈ t, Dir t (upL n.path)
theorem tree_iff (t : List Nd) : treeB t = true ↔ Tree t := by
  unfold treeB
  rw [Bool.and_eq_true, Bool.and_eq_true, decide_eq_true_eq, chain_iff, List.all_eq_true]
  constructor
  · rintro ⟨⟨h1, h2⟩, h3⟩
    have h4 : ∀ n ∈ t, pathL n.path = true ∧ rightB n = true ∧ dirB t (parentL n.path) = true := fun n hn => by
      have := h2 n hn
      unfold nodeB at this
      rw [Bool.and_eq_true, Bool.and_eq_true] at this
      exact ⟨this.1.1, this.1.2, this.2⟩
    refine ⟨h1, h3, fun n hn => (h4 n hn).1, fun n hn => (h4 n hn).2.1, fun n hn => ?_⟩
    have := (h4 n hn).2.2
    rw [show parentL n.path = upL n.path by unfold parentL; rw [if_pos (h4 n hn).1]] at this
    exact (dir_iff h3 _).1 this
  · intro h
    refine ⟨⟨h.len, fun n hn => ?_⟩, h.sorted⟩
    unfold nodeB
    rw [h.path n hn, h.right n hn, show parentL n.path = upL n.path by unfold parentL; rw [if_pos (h.path n hn)], (dir_iff h.sorted _).2 (h.dir n hn)]
    rfl
theorem tree_nil : Tree [] := ⟨by simp, List.Pairwise.nil, by simp, by simp, by simp⟩
/-- What stands below a path: that path is a directory of the tree. -/
theorem tree_above {t : List Nd} (ht : Tree t) {p : List UInt8} (hp : p ≠ []) : ∀ (k : Nat) (n : Nd), n.path.length ≤ k → n ∈ t → withinL n.path p = true → n.path ≠ p → ∃ d ∈ t, d.path = p ∧ d.kind = 2
  | 0, n, hk, hn, _, _ => absurd (List.eq_nil_of_length_eq_zero (by omega)) (path_ne (ht.path n hn))
  | k + 1, n, hk, hn, hw, hne => by
    obtain ⟨hu, hw2, _⟩ := within_up hw hp hne
    rcases ht.dir n hn with e | ⟨d, hd, e, hk2⟩
    · exact absurd e hu
    · by_cases hdp : d.path = p
      · exact ⟨d, hd, hdp, hk2⟩
      · refine tree_above ht hp k d ?_ hd (by rw [e]; exact hw2) hdp
        have := up_short (path_ne (ht.path n hn))
        rw [e]
        omega
end Go.Proofs.YtjkikkpbeceeeaaGreatDoor.TP
