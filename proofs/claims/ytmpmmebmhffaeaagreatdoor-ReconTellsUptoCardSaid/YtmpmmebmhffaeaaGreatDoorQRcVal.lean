/- Layer 12 over lists: what a tree has at a path, with the paths from the root; what stands right in it (no program is read here). -/
import Derived.Test.YtmpmmebmhffaeaaGreatDoorQRcA
import Derived.Test.YtmpmmebmhffaeaaGreatDoorQBase
set_option linter.all false
set_option maxRecDepth 100000
set_option maxHeartbeats 25600000
namespace Go.Proofs.YtmpmmebmhffaeaaGreatDoor
open Go
namespace RC
open NP TP

def valP (t : List Nd) (p : List UInt8) : List Nd := if p = [] then root :: t else t.filter fun n => withinL n.path p
theorem valP_nil (t : List Nd) : valP t [] = root :: t := if_pos rfl
theorem valP_ne (t : List Nd) {p : List UInt8} (h : p ≠ []) : valP t p = t.filter fun n => withinL n.path p := if_neg h
theorem tw_app {k s : List UInt8} (hk : 47 ∉ k) : (k ++ 47 :: s).takeWhile (fun c => decide (c ≠ 47)) = k := by
  induction k with
  | nil => simp
  | cons x k ih =>
    have hx : x ≠ 47 := fun e => hk (by simp [e])
    rw [List.cons_append, List.takeWhile_cons, if_pos (by simpa using hx), ih (fun h => hk (List.mem_cons_of_mem _ h))]
theorem tw_self {k : List UInt8} (hk : 47 ∉ k) : k.takeWhile (fun c => decide (c ≠ 47)) = k := by
  induction k with
  | nil => rfl
  | cons x k ih =>
    have hx : x ≠ 47 := fun e => hk (by simp [e])
    rw [List.takeWhile_cons, if_pos (by simpa using hx), ih (fun h => hk (List.mem_cons_of_mem _ h))]
theorem tw_parts (q : List UInt8) : 47 ∉ q.takeWhile (fun c => decide (c ≠ 47)) ∧ (q = q.takeWhile (fun c => decide (c ≠ 47)) ∨ ∃ s, q = q.takeWhile (fun c => decide (c ≠ 47)) ++ 47 :: s) := by
  induction q with
  | nil => exact ⟨by simp, .inl rfl⟩
  | cons x q ih =>
    by_cases hx : x = 47
    · subst hx
      exact ⟨by simp, .inr ⟨q, by simp⟩⟩
    · rw [List.takeWhile_cons, if_pos (by simpa using hx)]
      refine ⟨fun h => ?_, ?_⟩
      · rcases List.mem_cons.1 h with h | h
        · exact hx h.symm
        · exact ih.1 h
      · rcases ih.2 with h | ⟨s, h⟩
        · left; rw [← h]
        · right; exact ⟨s, by rw [List.cons_append, ← h]⟩
theorem key_within {q k : List UInt8} (hq : pathL q = true) (hk0 : k ≠ []) (hk : 47 ∉ k) : (q.takeWhile (fun c => decide (c ≠ 47)) = k) ↔ withinL q k = true := by
  rw [within_iff hq hk0]
  constructor
  · intro h
    obtain ⟨_, h2⟩ := tw_parts q
    rw [h] at h2
    rcases h2 with h2 | ⟨s, h2⟩
    · exact ⟨[], by rw [place_nil, ← h2]⟩
    · refine ⟨s, ?_⟩
      rw [place_ne _ (path_tail_ne (by rw [h2] at hq; exact hq))]
      exact h2
  · rintro ⟨s, rfl⟩
    unfold place
    split
    · exact tw_self hk
    · exact tw_app hk
theorem first_ne {q : List UInt8} (hq : pathL q = true) : q.takeWhile (fun c => decide (c ≠ 47)) ≠ [] := fun h => by
  obtain ⟨_, h2⟩ := tw_parts q
  rw [h] at h2
  rcases h2 with h2 | ⟨s, h2⟩
  · exact path_ne hq h2
  · have := path_head hq
    rw [h2] at this
    simp at this
/-- What stands right below p at the name k. -/
theorem below_nil {k : List UInt8} : belowP [] k = k := by
  unfold belowP
  exact trim_pre [47] k
theorem below_ne {p k : List UInt8} (hp : pathL p = true) : belowP p k = p ++ 47 :: k := by
  unfold belowP
  refine trim_no ?_
  have := path_head hp
  cases p with
  | nil => exact absurd hp (by rw [path_nil]; simp)
  | cons x r => simpa using this
theorem head_p {t : List Nd} (ht : Tree t) {p : List UInt8} (hp : pathL p = true) {h : Nd} {r : List Nd} (e : valP t p = h :: r) : h.path = p ∧ h ∈ t ∧ ∀ n ∈ r, n ∈ t ∧ withinL n.path p = true ∧ n.path ≠ p := by
  rw [valP_ne t (path_ne hp)] at e
  have hm : ∀ n ∈ h :: r, n ∈ t ∧ withinL n.path p = true := fun n hn => by rw [← e] at hn; simpa using hn
  have hs : Sorted (h :: r) := by rw [← e]; exact sorted_filter ht.sorted _
  have hh := hm h (List.mem_cons_self ..)
  have hhp : h.path = p := by
    refine Classical.byContradiction fun hne => ?_
    obtain ⟨d, hd, hdp, _⟩ := tree_above ht (path_ne hp) _ h (Nat.le_refl _) hh.1 hh.2 hne
    have hd2 : d ∈ h :: r := by
      rw [← e]
      refine List.mem_filter.2 ⟨hd, ?_⟩
      rw [hdp]
      exact within_self hp
    rcases List.mem_cons.1 hd2 with e2 | e2
    · exact hne (by rw [← e2, hdp])
    · have h1 := (List.pairwise_cons.1 hs).1 d e2
      have h2 := ord_below (path_ne hp) hh.2
      unfold TP.lt at h1
      rw [hdp] at h1
      exact ord_irr p (ord_le h2 h1)
  refine ⟨hhp, hh.1, fun n hn => ⟨(hm n (List.mem_cons_of_mem _ hn)).1, (hm n (List.mem_cons_of_mem _ hn)).2, fun e3 => ?_⟩⟩
  have h1 := (List.pairwise_cons.1 hs).1 n hn
  unfold TP.lt at h1
  rw [hhp, e3] at h1
  exact ord_irr p h1
/-- A node below p: its name there. -/
theorem key_p {p : List UInt8} (hp : pathL p = true) {q : List UInt8} (hq : pathL q = true) (hw : withinL q p = true) (hne : q ≠ p) : ∃ s, q = p ++ 47 :: s ∧ pathL s = true ∧ keyL p.length q = s.takeWhile (fun c => decide (c ≠ 47)) := by
  obtain ⟨s, e⟩ := (within_iff hq (path_ne hp)).1 hw
  have hs : s ≠ [] := fun h => hne (by rw [e, h, place_nil])
  rw [place_ne p hs] at e
  have hsp := path_tail (by rw [e] at hq; exact hq)
  refine ⟨s, e, hsp, ?_⟩
  unfold keyL
  rw [e, List.drop_left, show Lib.trimPrefix (47 :: s) [47] = s from trim_pre [47] s]
theorem key_0 {q : List UInt8} (hq : pathL q = true) : keyL 0 q = q.takeWhile (fun c => decide (c ≠ 47)) := by
  unfold keyL
  rw [List.drop_zero, trim_no (path_head hq)]
theorem within_place {q p k : List UInt8} (hq : pathL q = true) (hp : p ≠ []) (s : List UInt8) (e : q = p ++ 47 :: s) (hs : pathL s = true) (hk0 : k ≠ []) : withinL q (p ++ 47 :: k) = true ↔ withinL s k = true := by
  rw [within_iff hq (by simp), within_iff hs hk0]
  constructor
  · rintro ⟨u, hu⟩
    refine ⟨u, ?_⟩
    rw [e] at hu
    unfold place at hu ⊢
    split at hu
    · rename_i h0
      rw [if_pos h0]
      have := List.append_cancel_left hu
      injection this
    · rename_i h0
      rw [if_neg h0]
      rw [List.append_assoc] at hu
      have := List.append_cancel_left hu
      injection this
  · rintro ⟨u, hu⟩
    refine ⟨u, ?_⟩
    rw [e, hu]
    unfold place
    split
    · rfl
    · simp
/-- What stands right at a name is what the tree has there. -/
theorem sub_val {t : List Nd} (ht : Tree t) {p k : List UInt8} (hp : p = [] ∨ pathL p = true) (hk0 : k ≠ []) (hk : 47 ∉ k) : subL (valP t p) k = valP t (belowP p k) := by
  rcases hp with rfl | hp
  · rw [below_nil, valP_nil, valP_ne t hk0]
    show t.filter _ = _
    refine List.filter_congr fun n hn => ?_
    have hq := ht.path n hn
    have h0 : keyL root.path.length n.path = n.path.takeWhile (fun c => decide (c ≠ 47)) := key_0 hq
    rw [h0]
    have := key_within hq hk0 hk
    by_cases h : withinL n.path k = true
    · rw [h, decide_eq_true (this.2 h)]
    · rw [Bool.not_eq_true] at h
      rw [h, decide_eq_false (fun e => by have := this.1 e; rw [h] at this; cases this)]
  · have hb : belowP p k = p ++ 47 :: k := below_ne hp
    have hsub : ∀ n ∈ t, withinL n.path (p ++ 47 :: k) = true → withinL n.path p = true ∧ n.path ≠ p := fun n hn hw => by
      have hq := ht.path n hn
      obtain ⟨u, hu⟩ := (within_iff hq (by simp)).1 hw
      have e : n.path = p ++ 47 :: place k u := by
        rw [hu]
        unfold place
        split <;> simp
      refine ⟨(within_iff hq (path_ne hp)).2 ⟨place k u, ?_⟩, fun e2 => ?_⟩
      · rw [place_ne p (by unfold place; split <;> simp [hk0])]
        exact e
      · rw [e2] at e
        have := congrArg List.length e
        simp at this
    rw [hb, valP_ne t (by simp : p ++ 47 :: k ≠ [])]
    cases e : valP t p with
    | nil =>
      symm
      show t.filter _ = []
      refine List.filter_eq_nil_iff.2 fun n hn hw => ?_
      rw [valP_ne t (path_ne hp)] at e
      have := List.filter_eq_nil_iff.1 e n hn
      exact this (hsub n hn hw).1
    | cons h r =>
      obtain ⟨h1, h2, h3⟩ := head_p ht hp e
      have e1 : (t.filter fun n => withinL n.path (p ++ 47 :: k)) = (valP t p).filter fun n => withinL n.path (p ++ 47 :: k) := by
        rw [valP_ne t (path_ne hp), List.filter_filter]
        refine List.filter_congr fun n hn => ?_
        by_cases hw : withinL n.path (p ++ 47 :: k) = true
        · rw [hw, (hsub n hn hw).1]; rfl
        · rw [Bool.not_eq_true] at hw
          rw [hw]; rfl
      rw [e1, e]
      have hno : withinL h.path (p ++ 47 :: k) = false := by
        cases hw : withinL h.path (p ++ 47 :: k) with
        | false => rfl
        | true => exact absurd h1 (hsub h h2 hw).2
      rw [List.filter_cons, hno]
      show r.filter _ = if false = true then _ else _
      rw [if_neg (by simp)]
      refine List.filter_congr fun n hn => ?_
      obtain ⟨g1, g2, g3⟩ := h3 n hn
      have hq := ht.path n g1
      obtain ⟨s, es, hs, hkey⟩ := key_p hp hq g2 g3
      rw [h1, hkey]
      have a := key_within hs hk0 hk
      have b := within_place hq (path_ne hp) s es hs hk0
      by_cases hw : withinL s k = true
      · rw [b.2 hw, decide_eq_true (a.2 hw)]
      · rw [decide_eq_false (fun e => hw (a.1 e))]
        cases h4 : withinL n.path (p ++ 47 :: k) with
        | false => rfl
        | true => exact absurd (b.1 h4) hw
/-- The names in a tree's directory are names, and what is below them is in the tree. -/
theorem key_name {t : List Nd} (ht : Tree t) {p k : List UInt8} (hp : p = [] ∨ pathL p = true) (h : k ∈ keysL (valP t p)) : k ≠ [] ∧ 47 ∉ k ∧ pathL (belowP p k) = true := by
  have up : ∀ (n : Nd) (w : List UInt8), n ∈ t → w ≠ [] → withinL n.path w = true → pathL w = true := fun n w hn hw0 hw => within_q (ht.path n hn) hw0 hw
  rcases hp with rfl | hp
  · rw [valP_nil] at h
    obtain ⟨n, hn, e⟩ := List.mem_map.1 h
    have hq := ht.path n hn
    have h0 : keyL root.path.length n.path = n.path.takeWhile (fun c => decide (c ≠ 47)) := key_0 hq
    rw [h0] at e
    have hk0 : k ≠ [] := by rw [← e]; exact first_ne hq
    have hk : 47 ∉ k := by rw [← e]; exact (tw_parts n.path).1
    rw [below_nil]
    exact ⟨hk0, hk, up n k hn hk0 ((key_within hq hk0 hk).1 e)⟩
  · cases e : valP t p with
    | nil => rw [e] at h; cases h
    | cons m r =>
      rw [e] at h
      obtain ⟨h1, h2, h3⟩ := head_p ht hp e
      obtain ⟨n, hn, e2⟩ := List.mem_map.1 h
      obtain ⟨g1, g2, g3⟩ := h3 n hn
      have hq := ht.path n g1
      obtain ⟨s, es, hs, hkey⟩ := key_p hp hq g2 g3
      rw [h1, hkey] at e2
      have hk0 : k ≠ [] := by rw [← e2]; exact first_ne hs
      have hk : 47 ∉ k := by rw [← e2]; exact (tw_parts s).1
      rw [below_ne hp]
      exact ⟨hk0, hk, up n _ g1 (by simp) ((within_place hq (path_ne hp) s es hs hk0).2 ((key_within hs hk0 hk).1 e2))⟩
theorem val_pre {t : List Nd} (ht : Tree t) {p : List UInt8} (hp : p = [] ∨ pathL p = true) : ∀ x ∈ valP t p, (match valP t p with | [] => [] | h :: _ => h.path).length ≤ x.path.length := by
  intro x hx
  rcases hp with rfl | hp
  · rw [valP_nil]
    exact Nat.zero_le _
  · cases e : valP t p with
    | nil => exact Nat.zero_le _
    | cons h r =>
      obtain ⟨h1, _, _⟩ := head_p ht hp e
      show h.path.length ≤ _
      rw [h1]
      rw [valP_ne t (path_ne hp)] at hx
      obtain ⟨hx1, hx2⟩ := List.mem_filter.1 hx
      obtain ⟨s, es⟩ := (within_iff (ht.path x hx1) (path_ne hp)).1 hx2
      rw [es]
      unfold place
      split <;> simp
theorem val_len {t : List Nd} (ht : Tree t) (p : List UInt8) : (valP t p).length ≤ 1001 := by
  have := ht.len
  unfold valP
  split
  · simp; omega
  · have h2 := List.length_filter_le (fun n : Nd => withinL n.path p) t
    omega
theorem val_mem {t : List Nd} {p : List UInt8} {x : Nd} (h : x ∈ valP t p) : x = root ∨ x ∈ t := by
  unfold valP at h
  split at h
  · exact List.mem_cons.1 h
  · exact .inr (List.mem_filter.1 h).1
end RC
end Go.Proofs.YtmpmmebmhffaeaaGreatDoor
