/- Layer 6: the contract of the document's Differ. -/
import Derived.Test.YtfbhbadcgecgmaaGreatDoorTreeRefC
namespace Go.Proofs.YtfbhbadcgecgmaaGreatDoor
open Go.RowKit Go.Lib Go.BigFrame
namespace TP
open NP
theorem diff_left (a : List Nd) : diffM a [] = a.map (·.path) := by
  cases a with
  | nil => rw [diffM]
  | cons x a => rw [diffM]
theorem diff_right (b : List Nd) : diffM [] b = b.map (·.path) := by rw [diffM]
theorem diff_len : ∀ (a b : List Nd), (diffM a b).length ≤ a.length + b.length
  | [], b => by rw [diff_right, List.length_map]; simp
  | x :: a, [] => by rw [diff_left, List.length_map]; simp
  | x :: a, y :: b => by
    rw [diffM]
    split
    · have := diff_len a (y :: b)
      simp only [List.length_cons] at this ⊢; omega
    · split
      · have := diff_len (x :: a) b
        simp only [List.length_cons] at this ⊢; omega
      · split
        · have := diff_len a b
          simp only [List.length_cons] at this ⊢; omega
        · have := diff_len a b
          simp only [List.length_cons] at this ⊢; omega
  termination_by a b => a.length + b.length
theorem drop_at {l : List Nd} {k : Nat} {x : Nd} (h : l[k]? = some x) : l.drop k = x :: l.drop (k + 1) := by
  have hk := (List.getElem?_eq_some_iff.1 h).1
  rw [List.drop_eq_getElem_cons hk, (List.getElem?_eq_some_iff.1 h).2]
end TP
namespace TR
open OM TP TM

/-- What Differ answers, wherever the paths lie. -/
def DiffPost (a b : List Nd) (w : World) (r : Ending) (w' : World) : Prop :=
  ∃ v, r = .returned v ∧ w'.ownsRow w.heap.size 9 1 v (differL a b).length ((differL a b).map txt) ∧ Below w.heap.size w w'
theorem DiffPost.nil {a b : List Nd} {w w' : World} (h : differL a b = []) (hb : Below w.heap.size w w') : DiffPost a b w (.returned (.slice none 0 0)) w' :=
  ⟨_, rfl, by rw [h]; exact World.ownsRow_nil _ _ _ _, hb⟩
theorem differ_bad {a b : List Nd} (h : treeB a = false ∨ treeB b = false) : differL a b = [] := by
  unfold differL
  rw [if_neg]
  rintro ⟨h1, h2⟩
  rcases h with h | h
  · rw [h] at h1; cases h1
  · rw [h] at h2; cases h2
theorem tree_no {ts : List Nd} (h : ¬ ((checkE ts : Nat) : Int) = 0) : treeB ts = false := by
  cases ht : treeB ts with
  | false => rfl
  | true => exact absurd ((checkE_zero ts).2 ht) h
/-- The loop's state: what is told, and what is left. -/
def RDiff (xs ys : List Nd) (w : World) (s5 s6 s7 : Value) (wr : World) : Prop :=
  ∃ (k l : Nat) (done : List (List UInt8)), s6 = .int .i64 k ∧ s7 = .int .i64 l ∧ k ≤ xs.length ∧ l ≤ ys.length ∧ diffM xs ys = done ++ diffM (xs.drop k) (ys.drop l) ∧
    wr.ownsRow w.heap.size 9 1 s5 done.length (done.map txt) ∧ Below w.heap.size w wr
end TR
end Go.Proofs.YtfbhbadcgecgmaaGreatDoor
