/- Layer 13 over lists: what is done at each item (no program is read here). -/
import Derived.Test.YtechekdiadpmoaaDoorProg
set_option linter.all false
set_option maxRecDepth 100000
set_option maxHeartbeats 25600000
namespace Go.Proofs.YtechekdiadpmoaaDoor
open Go
namespace PL

/-- An item: its path, what it tells. A choice: its path, what is to be done. -/
abbrev Pi := List UInt8 × Int
def isWhatB (k : Int) : Bool := decide (k = 1) || (decide (k = 2) || (decide (k = 3) || decide (k = 4)))
def okChoice (d w : Int) : Bool :=
  if d = 0 ∨ d = 1 ∨ d = 2 ∨ d = 3 then decide (w = 2) || (decide (w = 3) || decide (w = 4))
  else if d = 4 then decide (w = 2) || decide (w = 3) else false
/-- The first of a path. -/
def findP : List Pi → List UInt8 → Option Int
  | [], _ => none
  | x :: r, p => if x.1 = p then some x.2 else findP r p
def whatAt (l : List Pi) (p : List UInt8) : Int := (findP l p).getD 0
/-- The first item that may not be. -/
def badI (acc : List Pi) : List Pi → Option Nat
  | [] => none
  | x :: r => if isWhatB x.2 = true ∧ findP acc x.1 = none then badI (acc ++ [x]) r else some acc.length
def badC (items acc : List Pi) : List Pi → Option Nat
  | [] => none
  | c :: r => if findP acc c.1 = none ∧ okChoice c.2 (whatAt items c.1) = true then badC items (acc ++ [c]) r else some acc.length
/-- What a profile says, as far as it is asked: a side that is forced, one that is preferred, whether nobody is to be asked; whether a path has a program. -/
structure Say where
  force : Int
  prefer : Int
  batch : Bool
  prog : List UInt8 → Bool
def dirI (w : Int) : Int := if w = 3 then 2 else 1
def settleL (s : Say) (cs : List Pi) (i : Pi) : Int :=
  match findP cs i.1 with
  | some d => if d = 4 then dirI i.2 else d
  | none =>
    if s.force = 1 ∨ s.force = 2 then s.force
    else if i.2 = 4 ∧ s.prog i.1 = true then 3
    else if i.2 = 4 ∧ (s.prefer = 1 ∨ s.prefer = 2) then s.prefer
    else if i.2 ≠ 4 ∧ s.batch = true then dirI i.2
    else 0
def doneL (s : Say) (cs items : List Pi) : List Pi := (items.filter fun i => decide (i.2 ≠ 1)).map fun i => (i.1, settleL s cs i)
/-- What Make answers: the list, the number, the error. -/
def makeL (s : Say) (items cs : List Pi) : List Pi × Nat × Int :=
  match badI [] items with
  | some n => ([], n, 91)
  | none =>
    match badC items [] cs with
    | some n => ([], n, 130)
    | none => (doneL s cs items, 0, 0)
/- how it is read -/
theorem find_snoc (l : List Pi) (x : Pi) (p : List UInt8) : findP (l ++ [x]) p = match findP l p with | some d => some d | none => if x.1 = p then some x.2 else none := by
  induction l with
  | nil => rfl
  | cons y l ih =>
    rw [List.cons_append]
    unfold findP
    split
    · rfl
    · exact ih
theorem find_mem {l : List Pi} {p : List UInt8} {d : Int} (h : findP l p = some d) : (p, d) ∈ l := by
  induction l with
  | nil => cases h
  | cons y l ih =>
    unfold findP at h
    split at h
    · rename_i e
      injection h with h
      rw [← e, ← h]
      exact List.mem_cons_self ..
    · exact List.mem_cons_of_mem _ (ih h)
theorem find_none {l : List Pi} {p : List UInt8} (h : findP l p = none) : ∀ x ∈ l, x.1 ≠ p := by
  induction l with
  | nil => intro x hx; cases hx
  | cons y l ih =>
    unfold findP at h
    split at h
    · cases h
    · rename_i e
      intro x hx
      rcases List.mem_cons.1 hx with rfl | hx
      · exact e
      · exact ih h x hx
theorem find_no {l : List Pi} {p : List UInt8} (h : ∀ x ∈ l, x.1 ≠ p) : findP l p = none := by
  induction l with
  | nil => rfl
  | cons y l ih =>
    unfold findP
    rw [if_neg (h y (List.mem_cons_self ..))]
    exact ih fun x hx => h x (List.mem_cons_of_mem _ hx)
theorem what_range {d w : Int} (h : okChoice d w = true) : 0 ≤ d ∧ d ≤ 4 ∧ (w = 2 ∨ w = 3 ∨ w = 4) := by
  unfold okChoice at h
  split at h
  · simp only [Bool.or_eq_true, decide_eq_true_eq] at h
    omega
  · split at h
    · simp only [Bool.or_eq_true, decide_eq_true_eq] at h
      omega
    · cases h
theorem isWhat_range {k : Int} (h : isWhatB k = true) : 1 ≤ k ∧ k ≤ 4 := by
  unfold isWhatB at h
  simp only [Bool.or_eq_true, decide_eq_true_eq] at h
  omega
/- the statements over lists -/
theorem badI_snoc (x : Pi) : ∀ (items acc : List Pi), badI acc (items ++ [x]) = match badI acc items with | some n => some n | none => if isWhatB x.2 = true ∧ findP (acc ++ items) x.1 = none then none else some (acc.length + items.length)
  | [], acc => by
    show badI acc [x] = _
    unfold badI badI
    simp
  | y :: items, acc => by
    rw [List.cons_append]
    show badI acc (y :: (items ++ [x])) = _
    conv => lhs; unfold badI
    conv => rhs; unfold badI
    split
    · rw [badI_snoc x items (acc ++ [y])]
      cases h : badI (acc ++ [y]) items with
      | some n => rfl
      | none =>
        simp only [List.append_assoc, List.singleton_append, List.length_append, List.length_cons, List.length_nil]
        congr 2
        omega
    · rfl
theorem badC_snoc (items : List Pi) (x : Pi) : ∀ (cs acc : List Pi), badC items acc (cs ++ [x]) = match badC items acc cs with | some n => some n | none => if findP (acc ++ cs) x.1 = none ∧ okChoice x.2 (whatAt items x.1) = true then none else some (acc.length + cs.length)
  | [], acc => by
    show badC items acc [x] = _
    unfold badC badC
    simp
  | y :: cs, acc => by
    rw [List.cons_append]
    show badC items acc (y :: (cs ++ [x])) = _
    conv => lhs; unfold badC
    conv => rhs; unfold badC
    split
    · rw [badC_snoc items x cs (acc ++ [y])]
      cases h : badC items (acc ++ [y]) cs with
      | some n => rfl
      | none =>
        simp only [List.append_assoc, List.singleton_append, List.length_append, List.length_cons, List.length_nil]
        congr 2
        omega
    · rfl
end PL
end Go.Proofs.YtechekdiadpmoaaDoor
