/- Layer 9, over lists: the document's reading of an archive (a count that asks for 7 bytes a node) tells what the program's does (8 bytes a node): a node of fewer than 8 bytes has no path, and is not right. -/
import Derived.Test.YtiggdojppfblkaaGreatDoorArRdU
namespace Go.Proofs.YtiggdojppfblkaaGreatDoor.AP
open CP TP RP

theorem num_eats {r : Rd} (h : (rNum r).2.2 = 0) : r.2 = 0 ∧ (rNum r).2.1.length + 1 ≤ r.1.length := by
  unfold rNum at h ⊢
  by_cases hf : r.2 = 0
  · rw [if_neg (by simp [hf])] at h ⊢
    by_cases he : (rd 0 0 r.1).2.2 = 0
    · rw [if_neg (by simp [he])] at h ⊢
      obtain ⟨_, hw, hl, _⟩ := rd_one (l := r.1) (x := (rd 0 0 r.1).1) (w := (rd 0 0 r.1).2.1) (Prod.ext rfl (Prod.ext rfl he))
      have := nm_pos (rd 0 0 r.1).1
      refine ⟨hf, ?_⟩
      simp only [List.length_drop]
      omega
    · rw [if_pos he] at h
      exact absurd h he
  · rw [if_pos hf] at h
    exact absurd h hf
theorem txt_eats {most : Int} {r : Rd} (h : (rTxt most r).2.2 = 0) : r.2 = 0 ∧ (rTxt most r).2.1.length + 1 + (rTxt most r).1.length ≤ r.1.length := by
  unfold rTxt at h ⊢
  by_cases hf : r.2 = 0
  · rw [if_neg (by simp [hf])] at h ⊢
    by_cases he : (cnt r.1 most 1).2.2 = 0
    · rw [if_neg (by simp [he])] at h ⊢
      rcases cnt_cases r.1 most 1 with ⟨h1, h2, h3, h4⟩ | ⟨e, h1, h2⟩
      · rw [h1]
        obtain ⟨_, hw, hl, _⟩ := rd_one (l := r.1) (x := (rd 0 0 r.1).1) (w := (rd 0 0 r.1).2.1) (Prod.ext rfl (Prod.ext rfl h2))
        have := nm_pos (rd 0 0 r.1).1
        have e1 : max (1 : Int) 1 = 1 := rfl
        rw [e1, Int.ediv_one] at h4
        refine ⟨hf, ?_⟩
        simp only [List.length_drop, List.length_take]
        omega
      · rw [h1] at he
        simp only [] at he
        omega
    · rw [if_pos he] at h
      exact absurd h he
  · rw [if_pos hf] at h
    exact absurd h hf
theorem node_eats {r : Rd} (h : (rNode r).2.2 = 0) (hp : (rNode r).1.1.path ≠ []) : r.2 = 0 ∧ (rNode r).2.1.length + 8 ≤ r.1.length := by
  unfold rNode at h hp ⊢
  simp only [] at h hp ⊢
  obtain ⟨g1, g2⟩ := num_eats h
  obtain ⟨f1, f2⟩ := num_eats g1
  obtain ⟨e1, e2⟩ := num_eats f1
  obtain ⟨d1, d2⟩ := txt_eats e1
  obtain ⟨c1, c2⟩ := num_eats d1
  obtain ⟨b1, b2⟩ := num_eats c1
  obtain ⟨a1, a2⟩ := txt_eats b1
  have := List.length_pos_iff.2 hp
  refine ⟨a1, ?_⟩
  omega
theorem node_keeps {r : Rd} (h : (rNode r).2.2 = 0) : r.2 = 0 := by
  unfold rNode at h
  simp only [] at h
  obtain ⟨g1, _⟩ := num_eats h
  obtain ⟨f1, _⟩ := num_eats g1
  obtain ⟨e1, _⟩ := num_eats f1
  obtain ⟨d1, _⟩ := txt_eats e1
  obtain ⟨c1, _⟩ := num_eats d1
  obtain ⟨b1, _⟩ := num_eats c1
  exact (txt_eats b1).1
theorem nodes_next (k : Nat) (r : Rd) : (rNodes (k + 1) r).1 = (rNodes k r).1 ++ [(rNode (rNodes k r).2.2).1.1] ∧ (rNodes (k + 1) r).2.2 = (rNode (rNodes k r).2.2).2 := by
  constructor
  · rw [rNodes]
  · rw [rNodes]
theorem nodes_eat (k : Nat) (r : Rd) : (rNodes k r).2.2.2 = 0 → (∀ n ∈ (rNodes k r).1, n.path ≠ []) → r.2 = 0 ∧ (rNodes k r).2.2.1.length + 8 * k ≤ r.1.length := by
  induction k with
  | zero => intro h _; exact ⟨h, Nat.le_refl _⟩
  | succ k ih =>
    intro h hp
    obtain ⟨e1, e2⟩ := nodes_next k r
    rw [e2] at h ⊢
    rw [e1] at hp
    obtain ⟨h1, h2⟩ := node_eats h (hp _ (List.mem_append_right _ (List.mem_singleton.2 rfl)))
    obtain ⟨h3, h4⟩ := ih h1 (fun n hn => hp n (List.mem_append_left _ hn))
    exact ⟨h3, by omega⟩
theorem nodes_add (k : Nat) (r : Rd) (h : (rNodes k r).2.2.2 ≠ 0) : ∀ j, (rNodes (k + j) r).2.2.2 ≠ 0 := by
  intro j
  induction j with
  | zero => exact h
  | succ j ih =>
    intro e
    have e2 := (nodes_next (k + j) r).2
    rw [show k + (j + 1) = (k + j) + 1 by omega, e2] at e
    exact ih (node_keeps e)
theorem cnt_is (most least : Int) (l : List UInt8) : rCnt most least (l, 0) = if (cnt l most least).2.2 ≠ 0 then (0, l, (cnt l most least).2.2) else ((cnt l most least).1, l.drop (cnt l most least).2.1, 0) := by
  unfold rCnt
  rw [if_neg (by simp)]
/-- Either the counts say the same, or the program's refuses what the document's lets pass: then there are fewer than 8 bytes a node. -/
theorem cnt_two (r : Rd) : rCnt 1000 8 r = rCnt 1000 7 r ∨ ((rCnt 1000 8 r).2.2 ≠ 0 ∧ (rCnt 1000 8 r).1 = 0 ∧ (rCnt 1000 7 r).2.1.length < 8 * (rCnt 1000 7 r).1) := by
  obtain ⟨l, f⟩ := r
  by_cases hf : f = 0
  · subst hf
    by_cases he : (rd 0 0 l).2.2 = 0
    · obtain ⟨_, hw, hl, _⟩ := rd_one (l := l) (x := (rd 0 0 l).1) (w := (rd 0 0 l).2.1) (Prod.ext rfl (Prod.ext rfl he))
      by_cases hm : (1000 : Int) < ((rd 0 0 l).1 : Nat)
      · left
        have h8 : ∀ least : Int, cnt l 1000 least = (0, 0, 32) := fun least => by unfold cnt; rw [if_neg (by simp [he]), if_pos hm]
        rw [cnt_is, cnt_is, h8, h8]
      · by_cases h7 : ((l.length : Int) - ((rd 0 0 l).2.1 : Nat)) / 7 < ((rd 0 0 l).1 : Nat)
        · left
          have c7 : cnt l 1000 7 = (0, 0, 30) := by
            unfold cnt
            rw [if_neg (by simp [he]), if_neg hm, show max (7 : Int) 1 = 7 from rfl, if_pos h7]
          have c8 : cnt l 1000 8 = (0, 0, 30) := by
            unfold cnt
            rw [if_neg (by simp [he]), if_neg hm, show max (8 : Int) 1 = 8 from rfl, if_pos (by omega)]
          rw [cnt_is, cnt_is, c7, c8]
        · have c7 : cnt l 1000 7 = rd 0 0 l := by
            unfold cnt
            rw [if_neg (by simp [he]), if_neg hm, show max (7 : Int) 1 = 7 from rfl, if_neg h7]
          by_cases h8 : ((l.length : Int) - ((rd 0 0 l).2.1 : Nat)) / 8 < ((rd 0 0 l).1 : Nat)
          · right
            have c8 : cnt l 1000 8 = (0, 0, 30) := by
              unfold cnt
              rw [if_neg (by simp [he]), if_neg hm, show max (8 : Int) 1 = 8 from rfl, if_pos h8]
            have e8 : rCnt 1000 8 (l, 0) = (0, l, 30) := by rw [cnt_is, c8]; rfl
            have e7 : rCnt 1000 7 (l, 0) = ((rd 0 0 l).1, l.drop (rd 0 0 l).2.1, 0) := by rw [cnt_is, c7, if_neg (by simp [he])]
            rw [e8, e7]
            refine ⟨by simp, rfl, ?_⟩
            simp only [List.length_drop]
            omega
          · left
            have c8 : cnt l 1000 8 = rd 0 0 l := by
              unfold cnt
              rw [if_neg (by simp [he]), if_neg hm, show max (8 : Int) 1 = 8 from rfl, if_neg h8]
            rw [cnt_is, cnt_is, c7, c8]
    · left
      have h8 : ∀ least : Int, cnt l 1000 least = (0, 0, (rd 0 0 l).2.2) := fun least => by unfold cnt; rw [if_pos he]
      rw [cnt_is, cnt_is, h8, h8]
  · left
    unfold rCnt
    rw [if_pos hf, if_pos hf]
/-- What the document reads of a payload. -/
def readR (p : List UInt8) : Ar × Bool :=
  let v := rTxt 8 (p, 0)
  if v.1 = ver then
    let a := rTxt 64 v.2; let s := rNum a.2; let n := rCnt 1000 7 s.2; let q := rNodes n.1 n.2
    (⟨a.1, s.1, q.1, q.2.1⟩, decide (q.2.2.2 = 0 ∧ q.2.2.1 = []))
  else (zeroA, false)
def decR (s : List UInt8) : Ar × Nat :=
  if (oneL s).1 = 0 ∧ (readR (oneL s).2).2 = true ∧ rightA (readR (oneL s).2).1 = true then ((readR (oneL s).2).1, 0) else (zeroA, 90)
theorem right_paths {a : Ar} (h : rightA a = true) : ∀ n ∈ a.tree, n.path ≠ [] := fun n hn => by
  have hR := (right_iff a).1 h
  exact fun e => by have := hR.tree.path n hn; rw [e] at this; exact absurd this (by decide)
theorem dec_same (s : List UInt8) : decR s = decL s := by
  unfold decR decL
  generalize (oneL s).2 = p
  by_cases hv : (rTxt 8 (p, 0)).1 = ver
  · rcases cnt_two (rNum (rTxt 64 (rTxt 8 (p, 0)).2).2).2 with h | ⟨h1, h2, h3⟩
    · have : readR p = readA p := by
        unfold readR readA
        simp only []
        rw [if_pos hv, if_pos hv, h]
      rw [this]
    · have hA : (readA p).2 = false := by
        unfold readA
        simp only []
        rw [if_pos hv]
        simp only []
        rw [h2]
        simp only [decide_eq_false_iff_not]
        exact fun e => h1 e.1
      have hB : ¬ ((readR p).2 = true ∧ rightA (readR p).1 = true) := by
        rintro ⟨g1, g2⟩
        have g3 := right_paths g2
        unfold readR at g1 g3
        simp only [] at g1 g3
        rw [if_pos hv] at g1 g3
        simp only [decide_eq_true_eq] at g1
        obtain ⟨_, g4⟩ := nodes_eat _ _ g1.1 g3
        omega
      rw [if_neg (fun e => hB e.2), if_neg (fun e => by rw [hA] at e; exact absurd e.2.1 (by simp))]
  · have : readR p = readA p := by
      unfold readR readA
      simp only []
      rw [if_neg hv, if_neg hv]
    rw [this]
end Go.Proofs.YtiggdojppfblkaaGreatDoor.AP
