/- Layer 12 over lists: how many items and agreed nodes there are at most (no program is read here). -/
import Derived.Test.YtmpmmebmhffaeaaGreatDoorQRcA
set_option linter.all false
set_option maxRecDepth 100000
set_option maxHeartbeats 25600000
namespace Go.Proofs.YtmpmmebmhffaeaaGreatDoor
open Go
namespace RC
open TP

theorem sortedK_nodup {l : List (List UInt8)} (h : SortedK l) : l.Nodup := by
  refine h.imp fun {a b} hab e => ?_
  rw [e, lex_irr] at hab
  cases hab
theorem sum_sub (r : List Nd) (f : Nd → List UInt8) : ∀ ks : List (List UInt8), ks.Nodup → (ks.map fun k => (r.filter fun n => decide (f n = k)).length).sum + (r.filter fun n => decide (f n ∉ ks)).length ≤ r.length
  | [], _ => by
    simp only [List.map_nil, List.sum_nil, Nat.zero_add]
    exact List.length_filter_le _ _
  | k :: ks, h => by
    have h1 := List.nodup_cons.1 h
    have ih := sum_sub r f ks h1.2
    have e : (r.filter fun n => decide (f n = k)).length + (r.filter fun n => decide (f n ∉ k :: ks)).length ≤ (r.filter fun n => decide (f n ∉ ks)).length := by
      clear ih
      induction r with
      | nil => simp
      | cons n r ih2 =>
        simp only [List.filter_cons]
        by_cases a : f n = k
        · have b : f n ∉ ks := fun hm => h1.1 (a ▸ hm)
          have c : ¬ (f n ∉ k :: ks) := fun hm => hm (by rw [a]; exact List.mem_cons_self ..)
          rw [if_pos (decide_eq_true a), if_neg (by simp only [decide_eq_true_eq]; exact c), if_pos (decide_eq_true b)]
          simp only [List.length_cons]
          omega
        · rw [if_neg (by simpa using a)]
          by_cases b : f n ∉ ks
          · have c : f n ∉ k :: ks := fun hm => by
              rcases List.mem_cons.1 hm with h2 | h2
              · exact a h2
              · exact b h2
            rw [if_pos (decide_eq_true c), if_pos (decide_eq_true b)]
            simp only [List.length_cons]
            omega
          · have c : ¬ (f n ∉ k :: ks) := fun hm => b (fun h3 => hm (List.mem_cons_of_mem _ h3))
            rw [if_neg (by simp only [decide_eq_true_eq]; exact c), if_neg (by simp only [decide_eq_true_eq]; exact b)]
            exact ih2
    rw [List.map_cons, List.sum_cons]
    omega
theorem sum_val (v : List Nd) (ks : List (List UInt8)) (h : ks.Nodup) : (ks.map fun k => (subL v k).length).sum + (if v = [] then 0 else 1) ≤ v.length := by
  cases v with
  | nil =>
    have : (ks.map fun k => (subL [] k).length) = ks.map fun _ => 0 := rfl
    rw [this]
    clear this h
    induction ks with
    | nil => simp
    | cons k ks ih => simpa using ih
  | cons x r =>
    have := sum_sub r (fun n => keyL x.path.length n.path) ks h
    rw [if_neg (by simp)]
    show (ks.map fun k => (r.filter _).length).sum + 1 ≤ r.length + 1
    omega
theorem flat_len {α : Type} (f : List UInt8 → List α) (g : List UInt8 → Nat) : ∀ ks : List (List UInt8), (∀ k ∈ ks, (f k).length ≤ g k) → (ks.flatMap f).length ≤ (ks.map g).sum
  | [], _ => by simp
  | k :: ks, h => by
    rw [List.flatMap_cons, List.length_append, List.map_cons, List.sum_cons]
    have h1 := h k (List.mem_cons_self ..)
    have h2 := flat_len f g ks (fun x hx => h x (List.mem_cons_of_mem _ hx))
    omega
theorem sum_three (f g h : List UInt8 → Nat) : ∀ ks : List (List UInt8), (ks.map fun k => f k + g k + h k).sum = (ks.map f).sum + (ks.map g).sum + (ks.map h).sum
  | [] => rfl
  | k :: ks => by
    simp only [List.map_cons, List.sum_cons]
    rw [sum_three f g h ks]
    omega
theorem three_sum (o a b : List Nd) : ((namesK o a b).map fun k => (subL o k).length + (subL a k).length + (subL b k).length).sum + (if a = [] then 0 else 1) ≤ o.length + a.length + b.length := by
  have hn : (namesK o a b).Nodup := sortedK_nodup (sorted_ordK _)
  have h1 := sum_val o _ hn
  have h2 := sum_val a _ hn
  have h3 := sum_val b _ hn
  rw [sum_three]
  omega
theorem items_lenF : ∀ (f : Nat) (p : List UInt8) (o a b : List Nd), (itemsF f p o a b).length ≤ o.length + a.length + b.length
  | 0, _, _, _, _ => Nat.zero_le _
  | f + 1, p, o, a, b => by
    have one : o ≠ [] ∨ a ≠ [] ∨ b ≠ [] → 1 ≤ o.length + a.length + b.length := by
      rintro (h | h | h) <;> have := List.length_pos_iff.2 h <;> omega
    unfold itemsF
    split
    · rename_i h1
      split
      · exact Nat.zero_le _
      · rename_i h2
        refine one ?_
        by_cases ho : o = []
        · by_cases ha : a = []
          · exact absurd (ho.trans ha.symm) h2
          · exact .inr (.inl ha)
        · exact .inl ho
    · rename_i h1
      split
      · refine Nat.le_trans (flat_len _ _ _ (fun k _ => items_lenF f _ _ _ _)) ?_
        have := three_sum o a b
        omega
      · have h2 : 1 ≤ o.length + a.length + b.length := by
          refine one ?_
          by_cases ha : a = []
          · by_cases hb : b = []
            · exact absurd (ha.trans hb.symm) h1
            · exact .inr (.inr hb)
          · exact .inr (.inl ha)
        split
        · exact h2
        · split
          · exact h2
          · exact h2
theorem items_len (p : List UInt8) (o a b : List Nd) : (itemsL p o a b).length ≤ o.length + a.length + b.length := items_lenF _ _ _ _ _
theorem agreed_lenF : ∀ (f : Nat) (o a b : List Nd), (agreedF f o a b).length ≤ o.length + a.length + b.length
  | 0, _, _, _ => Nat.zero_le _
  | f + 1, o, a, b => by
    unfold agreedF
    split
    · omega
    · split
      · rename_i h2
        have hne : a ≠ [] := fun e => by rw [e] at h2; cases h2.1
        have h3 := flat_len (fun k => agreedF f (subL o k) (subL a k) (subL b k)) _ (namesK o a b) (fun k _ => agreed_lenF f _ _ _)
        have h4 := three_sum o a b
        rw [if_neg hne] at h4
        rw [List.length_append, List.length_take]
        omega
      · omega
theorem agreed_len (o a b : List Nd) : (agreedL o a b).length ≤ o.length + a.length + b.length := agreed_lenF _ _ _ _
end RC
end Go.Proofs.YtmpmmebmhffaeaaGreatDoor
