/- Layer 9, over lists: what is read as an archive is written as the same bytes. -/
import Derived.Test.YtiggdojppfblkaaGreatDoorArRdP
namespace Go.Proofs.YtiggdojppfblkaaGreatDoor.AP
open CP TP RP

theorem num_back {r : Rd} (h : (rNum r).2.2 = 0) : r.1 = nm (rNum r).1 ++ (rNum r).2.1 := by
  unfold rNum at h ⊢
  by_cases hf : r.2 = 0
  · rw [if_neg (by simp [hf])] at h ⊢
    by_cases he : (rd 0 0 r.1).2.2 = 0
    · rw [if_neg (by simp [he])] at h ⊢
      obtain ⟨ht, hw, hl, _⟩ := rd_one (l := r.1) (x := (rd 0 0 r.1).1) (w := (rd 0 0 r.1).2.1) (Prod.ext rfl (Prod.ext rfl he))
      show r.1 = nm (rd 0 0 r.1).1 ++ r.1.drop (rd 0 0 r.1).2.1
      rw [← ht]
      exact (List.take_append_drop _ _).symm
    · rw [if_pos he] at h
      exact absurd h he
  · rw [if_pos hf] at h
    exact absurd h hf
theorem cnt_back {most least : Int} {r : Rd} (h : (rCnt most least r).2.2 = 0) : r.2 = 0 ∧ r.1 = nm (rCnt most least r).1 ++ (rCnt most least r).2.1 := by
  unfold rCnt at h ⊢
  by_cases hf : r.2 = 0
  · rw [if_neg (by simp [hf])] at h ⊢
    by_cases he : (cnt r.1 most least).2.2 = 0
    · rw [if_neg (by simp [he])] at h ⊢
      rcases cnt_cases r.1 most least with ⟨h1, h2, _, _⟩ | ⟨e, h1, h2⟩
      · rw [h1]
        obtain ⟨ht, hw, hl, _⟩ := rd_one (l := r.1) (x := (rd 0 0 r.1).1) (w := (rd 0 0 r.1).2.1) (Prod.ext rfl (Prod.ext rfl h2))
        refine ⟨hf, ?_⟩
        show r.1 = nm (rd 0 0 r.1).1 ++ r.1.drop (rd 0 0 r.1).2.1
        rw [← ht]
        exact (List.take_append_drop _ _).symm
      · rw [h1] at he
        simp only [] at he
        omega
    · rw [if_pos he] at h
      exact absurd h he
  · rw [if_pos hf] at h
    exact absurd h hf
theorem txt_back {most : Int} {r : Rd} (h : (rTxt most r).2.2 = 0) : r.1 = textS (rTxt most r).1 ++ (rTxt most r).2.1 := by
  have hz := (txt_eats h).2
  unfold rTxt at h hz ⊢
  by_cases hf : r.2 = 0
  · rw [if_neg (by simp [hf])] at h hz ⊢
    by_cases he : (cnt r.1 most 1).2.2 = 0
    · rw [if_neg (by simp [he])] at h hz ⊢
      rcases cnt_cases r.1 most 1 with ⟨h1, h2, h3, h4⟩ | ⟨e, h1, h2⟩
      · rw [h1] at hz ⊢
        obtain ⟨ht, hw, hl, _⟩ := rd_one (l := r.1) (x := (rd 0 0 r.1).1) (w := (rd 0 0 r.1).2.1) (Prod.ext rfl (Prod.ext rfl h2))
        have e1 : max (1 : Int) 1 = 1 := rfl
        rw [e1, Int.ediv_one] at h4
        show r.1 = textS ((r.1.drop (rd 0 0 r.1).2.1).take (rd 0 0 r.1).1) ++ r.1.drop ((rd 0 0 r.1).2.1 + (rd 0 0 r.1).1)
        unfold textS
        rw [List.length_take, List.length_drop, Nat.min_eq_left (by omega), ← ht, List.append_assoc, ← List.drop_drop, List.take_append_drop, List.take_append_drop]
      · rw [h1] at he
        simp only [] at he
        omega
    · rw [if_pos he] at h
      exact absurd h he
  · rw [if_pos hf] at h
    exact absurd h hf
theorem numS_of (n : Nat) : numS (n : Int) = nm n := by rw [numS_nat (by omega), Int.toNat_natCast]
theorem node_back {r : Rd} (h : (rNode r).2.2 = 0) : r.1 = nodeS (rNode r).1.1 (rNode r).1.2 ++ (rNode r).2.1 := by
  unfold rNode at h ⊢
  simp only [] at h ⊢
  have g2 := num_back h
  have g1 := (num_eats h).1
  have f2 := num_back g1
  have f1 := (num_eats g1).1
  have e2 := num_back f1
  have e1 := (num_eats f1).1
  have d2 := txt_back e1
  have d1 := (txt_eats e1).1
  have c2 := num_back d1
  have c1 := (num_eats d1).1
  have b2 := num_back c1
  have b1 := (num_eats c1).1
  have a2 := txt_back b1
  unfold nodeS
  simp only [numS_of, List.append_assoc]
  rw [← g2, ← f2, ← e2, ← d2, ← c2, ← b2]
  exact a2
theorem nodesS_end : ∀ (t : List Nd) (u : List Sm) (n : Nd) (s : Sm), t.length = u.length → nodesS (t ++ [n]) (u ++ [s]) = nodesS t u ++ nodeS n s
  | [], [], n, s, _ => by simp [nodesS]
  | a :: t, b :: u, n, s, h => by
    have ih := nodesS_end t u n s (by simpa using h)
    simp only [List.cons_append, nodesS, ih, List.append_assoc]
  | [], _ :: _, _, _, h => by simp at h
  | _ :: _, [], _, _, h => by simp at h
theorem nodes_last (k : Nat) (r : Rd) : (rNodes (k + 1) r).2.1 = (rNodes k r).2.1 ++ [(rNode (rNodes k r).2.2).1.2] := by rw [rNodes]
theorem nodes_back (k : Nat) (r : Rd) : (rNodes k r).2.2.2 = 0 → r.1 = nodesS (rNodes k r).1 (rNodes k r).2.1 ++ (rNodes k r).2.2.1 := by
  induction k with
  | zero => intro _; rfl
  | succ k ih =>
    intro h
    obtain ⟨e1, e2⟩ := nodes_next k r
    have e3 := nodes_last k r
    rw [e2] at h ⊢
    rw [e1, e3]
    have hl := CR.nodes_len k r
    rw [nodesS_end _ _ _ _ (by rw [hl.1, hl.2]), List.append_assoc, ← node_back h]
    exact ih (node_keeps h)
theorem nodes_first (k : Nat) (r : Rd) (h : (rNodes k r).2.2.2 = 0) : r.2 = 0 := by
  induction k with
  | zero => exact h
  | succ k ih =>
    rw [(nodes_next k r).2] at h
    exact ih (node_keeps h)
theorem read_back {q : List UInt8} (h : (readA q).2 = true) : q = payL (readA q).1 := by
  unfold readA at h ⊢
  simp only [] at h ⊢
  by_cases hv : (rTxt 8 (q, 0)).1 = ver
  · rw [if_pos hv] at h ⊢
    simp only [decide_eq_true_eq] at h
    obtain ⟨h1, h2⟩ := h
    have n2 := nodes_back _ _ h1
    have n1 := nodes_first _ _ h1
    obtain ⟨c1, c2⟩ := cnt_back n1
    have s2 := num_back c1
    have s1 := (num_eats c1).1
    have p2 := txt_back s1
    have p1 := (txt_eats s1).1
    have v2 := txt_back p1
    have hl := CR.nodes_len (rCnt 1000 8 (rNum (rTxt 64 (rTxt 8 (q, 0)).2).2).2).1 (rCnt 1000 8 (rNum (rTxt 64 (rTxt 8 (q, 0)).2).2).2).2
    rw [h2, List.append_nil] at n2
    unfold payL
    simp only [numS_of]
    rw [hl.1, ← n2, ← c2, ← s2, ← p2, ← hv]
    exact v2
  · rw [if_neg hv] at h
    exact absurd h (by simp)
theorem dec_pack {l : List UInt8} {a : Ar} (h : decL l = (a, 0)) : l = packL (payL a) ∧ rightA a = true := by
  unfold decL at h
  by_cases hc : (oneL l).1 = 0 ∧ (readA (oneL l).2).2 = true ∧ rightA (readA (oneL l).2).1 = true
  · rw [if_pos hc] at h
    obtain ⟨h1, h2, h3⟩ := hc
    have ha : (readA (oneL l).2).1 = a := (Prod.mk.inj h).1
    rw [ha] at h3
    refine ⟨?_, h3⟩
    have hb := read_back h2
    rw [ha] at hb
    rcases one_cases l with ⟨q', g1, g2⟩ | ⟨e, g1⟩
    · rw [g1] at hb
      simp only [] at hb
      have g3 := (next_ok g2).1
      rw [hb, List.append_nil] at g3
      exact g3
    · rw [g1] at h1
      simp at h1
  · rw [if_neg hc] at h
    exact absurd (Prod.mk.inj h).2 (by decide)
end Go.Proofs.YtiggdojppfblkaaGreatDoor.AP
