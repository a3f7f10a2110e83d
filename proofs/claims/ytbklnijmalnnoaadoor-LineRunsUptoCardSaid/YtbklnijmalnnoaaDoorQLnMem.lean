/- Layer 15: a reader in memory; what a frame is, step by step. -/
import Derived.Test.YtbklnijmalnnoaaDoorQLnFn
set_option linter.all false
set_option maxRecDepth 100000
set_option maxHeartbeats 25600000
namespace Go.Proofs.YtbklnijmalnnoaaDoor
namespace LP
open Go HP HS RP
/-- A text begins with a frame: as the program looks at it. -/
theorem next_by (n : Nat) (s : List UInt8) : nextF n s =
    if s.length < 12 then none
    else if (s.drop 4).take 4 ≠ be4 (crcL (s.take 4)) then none
    else if MaxP < num4 s 0 then none
    else if s.length - 12 < num4 s 0 then none
    else if (s.drop 8).take 4 ≠ be4 (crcL (be4 n ++ (s.drop 12).take (num4 s 0))) then none
    else some ((s.drop 12).take (num4 s 0), s.drop (12 + num4 s 0)) := by
  by_cases h1 : s.length < 12
  · rw [if_pos h1]
    unfold nextF
    rw [if_neg (by omega)]
  · rw [if_neg h1]
    obtain ⟨k, hk⟩ : ∃ k, num4 s 0 = k := ⟨_, rfl⟩
    have e0 : be4 k = s.take 4 := by rw [← hk]; exact be4_num s 0 (by omega)
    have a1 : s.take 4 ++ s.drop 4 = s := List.take_append_drop 4 s
    have a2 : (s.drop 4).take 4 ++ s.drop 8 = s.drop 4 := by
      have := List.take_append_drop 4 (s.drop 4)
      rw [List.drop_drop] at this
      exact this
    have a3 : (s.drop 8).take 4 ++ s.drop 12 = s.drop 8 := by
      have := List.take_append_drop 4 (s.drop 8)
      rw [List.drop_drop] at this
      exact this
    have l1 : (s.take 4).length = 4 := by rw [List.length_take]; omega
    have l2 : ((s.drop 4).take 4).length = 4 := by rw [List.length_take, List.length_drop]; omega
    have l3 : ((s.drop 8).take 4).length = 4 := by rw [List.length_take, List.length_drop]; omega
    have ht : s.take (12 + k) = s.take 4 ++ (s.drop 4).take 4 ++ (s.drop 8).take 4 ++ (s.drop 12).take k := by
      conv => lhs; rw [← a1, ← a2, ← a3, ← List.append_assoc, ← List.append_assoc]
      rw [List.take_append, List.take_of_length_le (by simp only [List.length_append, l1, l2, l3]; omega)]
      simp only [List.length_append, l1, l2, l3]
      rw [show 12 + k - (4 + 4 + 4) = k by omega]
    unfold nextF
    rw [hk]
    by_cases h2 : MaxP < k
    · rw [if_neg (by omega), if_pos h2, ite_self]
    · rw [if_neg h2]
      by_cases h3 : s.length - 12 < k
      · rw [if_neg (by omega), if_pos h3, ite_self]
      · rw [if_neg h3]
        have hpl : ((s.drop 12).take k).length = k := by rw [List.length_take, List.length_drop]; omega
        by_cases h4 : (s.drop 4).take 4 = be4 (crcL (s.take 4))
        · by_cases h5 : (s.drop 8).take 4 = be4 (crcL (be4 n ++ (s.drop 12).take k))
          · have hc : 12 ≤ s.length ∧ k ≤ MaxP ∧ k + 12 ≤ s.length ∧ s.take (12 + k) = frameL n ((s.drop 12).take k) := ⟨by omega, by omega, by omega, by
              rw [ht]
              unfold frameL
              rw [hpl, e0, ← h4, ← h5]⟩
            rw [if_pos hc, if_neg (not_not_intro h4), if_neg (not_not_intro h5)]
          · have hc : ¬ (12 ≤ s.length ∧ k ≤ MaxP ∧ k + 12 ≤ s.length ∧ s.take (12 + k) = frameL n ((s.drop 12).take k)) := by
              rintro ⟨_, _, _, h⟩
              rw [ht] at h
              unfold frameL at h
              have h := List.append_cancel_right h
              exact h5 (List.append_inj_right' h (by rw [l3, be4_len]))
            rw [if_neg hc, if_neg (not_not_intro h4), if_pos h5]
        · have hc : ¬ (12 ≤ s.length ∧ k ≤ MaxP ∧ k + 12 ≤ s.length ∧ s.take (12 + k) = frameL n ((s.drop 12).take k)) := by
            rintro ⟨_, _, _, h⟩
            rw [ht] at h
            unfold frameL at h
            have h := List.append_cancel_right h
            have h := List.append_inj_left' h (by rw [l3, be4_len])
            have h := List.append_inj_right' h (by rw [l2, be4_len])
            rw [hpl, e0] at h
            exact h4 h
          rw [if_neg hc, if_pos h4]
theorem next_len {n : Nat} {s p r : List UInt8} (h : nextF n s = some (p, r)) : s.length = p.length + 12 + r.length := by
  rw [(next_some h).1, List.length_append, frame_len]
theorem read_nil : readL [] = ([], true) := rfl
theorem go_bad {f n : Nat} {s : List UInt8} (h0 : s ≠ []) (h : nextF n s = none) : readGo f n s = ([], false) := by
  cases f with
  | zero =>
    rw [readGo]
    simp [h0]
  | succ f => rw [readGo, if_neg h0, h]
theorem go_step {n : Nat} {s p r : List UInt8} (h : nextF n s = some (p, r)) : readGo s.length n s = (p :: (readGo r.length (n + 1) r).1, (readGo r.length (n + 1) r).2) := by
  have hs := next_len h
  have h0 : s ≠ [] := fun e => by rw [e] at hs; simp at hs; omega
  obtain ⟨f, hf⟩ : ∃ f, s.length = f + 1 := ⟨s.length - 1, by omega⟩
  rw [hf, readGo, if_neg h0, h]
  simp only
  rw [read_fuel f r.length (n + 1) r (by omega) (Nat.le_refl _)]
end LP
open Go.RowKit Go.Lib Go.BigFrame
namespace LN
open HP HS RP LP OM RQ HR
open HQ (Env crc_any)

abbrev ptr (b : Nat) : Value := .pointer (some ⟨b, 0, none⟩)
/-- A reader in block b: what is left, and the payloads that were read. -/
structure RdA (b : Nat) (s : List UInt8) (ls : List (List UInt8)) (w : World) : Prop where
  c0 : w.cell? ⟨b, 0, none⟩ = some (txt s)
  f0 : w.frozen? ⟨b, 0, none⟩ = false
  f1 : w.frozen? ⟨b, 1, none⟩ = false
  lt : b < w.heap.size
  own : ∃ v, w.cell? ⟨b, 1, none⟩ = some v ∧ w.ownsRow (b + 1) 9 1 v ls.length (ls.map txt)
theorem RdA.keep {b : Nat} {s : List UInt8} {ls : List (List UInt8)} {w w' : World} (h : RdA b s ls w) (hb : Below w.heap.size w w') : RdA b s ls w' := by
  obtain ⟨c0, f0, f1, lt, v, c1, ho⟩ := h
  exact ⟨(hb.cell (p := ⟨b, 0, none⟩) lt).trans c0, (hb.frozen (p := ⟨b, 0, none⟩) lt).trans f0, (hb.frozen (p := ⟨b, 1, none⟩) lt).trans f1, Nat.lt_of_lt_of_le lt hb.size, v, (hb.cell (p := ⟨b, 1, none⟩) lt).trans c1, owns_below ho hb⟩
theorem RdA.set0 {b : Nat} {s : List UInt8} {ls : List (List UInt8)} {w : World} (h : RdA b s ls w) (t : List UInt8) : RdA b t ls (w.setCell ⟨b, 0, none⟩ (txt t)) := by
  obtain ⟨c0, f0, f1, lt, v, c1, ho⟩ := h
  exact ⟨World.cell?_setCell_same _ _ _ c0, by rw [World.frozen?_setCell]; exact f0, by rw [World.frozen?_setCell]; exact f1, by rw [World.size_setCell]; exact lt, v, by rw [World.cell?_setCell_other _ _ _ _ (by simp)]; exact c1, ownsRow_setCell_below ho (a := ⟨b, 0, none⟩) (Nat.lt_succ_self b) _⟩
/-- The list in it is another one, of the call's own. -/
theorem RdA.set1 {b : Nat} {s : List UInt8} {ls ms : List (List UInt8)} {w w' : World} {v : Value} (h : RdA b s ls w) (hk : ∀ o, w'.cell? ⟨b, o, none⟩ = w.cell? ⟨b, o, none⟩) (hf : ∀ o, w'.frozen? ⟨b, o, none⟩ = w.frozen? ⟨b, o, none⟩) (hl : b < w'.heap.size) (ho : w'.ownsRow (b + 1) 9 1 v ms.length (ms.map txt)) : RdA b s ms (w'.setCell ⟨b, 1, none⟩ v) := by
  obtain ⟨c0, f0, f1, lt, u, c1, _⟩ := h
  have d1 : w'.cell? ⟨b, 1, none⟩ = some u := (hk 1).trans c1
  exact ⟨by rw [World.cell?_setCell_other _ _ _ _ (by simp), hk]; exact c0, by rw [World.frozen?_setCell, hf]; exact f0, by rw [World.frozen?_setCell, hf]; exact f1, by rw [World.size_setCell]; exact hl, v, World.cell?_setCell_same _ _ _ d1, ownsRow_setCell_below ho (a := ⟨b, 1, none⟩) (Nat.lt_succ_self b) _⟩
theorem RdA.lay {b : Nat} {s : List UInt8} {ls : List (List UInt8)} {w : World} (h : RdA b s ls w) : ∃ ao c, w.cell? ⟨b, 1, none⟩ = some (.slice ao ls.length c) ∧ Lay w ao ls ∧ ls.length ≤ maxLen := by
  obtain ⟨_, _, _, _, v, c1, ho⟩ := h
  have hl := owns_len ho
  obtain ⟨ao, c, rfl, hL⟩ := RF.lay_of ho
  exact ⟨ao, c, c1, hL, hl⟩
end LN
end Go.Proofs.YtbklnijmalnnoaaDoor
