/- Layer 15: what comes over a line, over lists (no program is read here). -/
import Derived.Test.YtbklnijmalnnoaaDoorQLnPlain
set_option linter.all false
set_option maxRecDepth 100000
set_option maxHeartbeats 25600000
namespace Go.Proofs.YtbklnijmalnnoaaDoor.LP
open Go HP HS RP

/-- The first bytes. -/
def cutL (s : List UInt8) (cut : Int) : List UInt8 := if 0 ≤ cut then s.take cut.toNat else s
/-- A byte turned. -/
def turnL (s : List UInt8) (flip : Int) (x : UInt8) : List UInt8 := if 0 ≤ flip ∧ flip < s.length then s.set flip.toNat (s.getD flip.toNat 0 ^^^ x) else s
def carryL (s : List UInt8) (cut flip : Int) (x : UInt8) : List UInt8 := turnL (cutL s cut) flip x
/-- The messages with which a text begins, and whether that is all of it. -/
def readL (s : List UInt8) : List (List UInt8) × Bool := readGo s.length 0 s

theorem turn_len (s : List UInt8) (flip : Int) (x : UInt8) : (turnL s flip x).length = s.length := by
  unfold turnL
  split
  · rw [List.length_set]
  · rfl
theorem turn_set (s : List UInt8) (flip : Int) (x : UInt8) : ∃ k b, turnL s flip x = s.set k b := by
  unfold turnL
  split
  · exact ⟨_, _, rfl⟩
  · exact ⟨s.length, x, by rw [List.set_eq_of_length_le (Nat.le_refl _)]⟩
theorem cut_take (s : List UInt8) (cut : Int) : ∃ c, cutL s cut = s.take c := by
  unfold cutL
  split
  · exact ⟨_, rfl⟩
  · exact ⟨s.length, by rw [List.take_of_length_le (Nat.le_refl _)]⟩
theorem carry_form (s : List UInt8) (cut flip : Int) (x : UInt8) : ∃ c k b, carryL s cut flip x = (s.take c).set k b := by
  obtain ⟨c, hc⟩ := cut_take s cut
  obtain ⟨k, b, hk⟩ := turn_set (cutL s cut) flip x
  exact ⟨c, k, b, by unfold carryL; rw [hk, hc]⟩
theorem turn_none (s : List UInt8) (flip : Int) (x : UInt8) (h : x = 0 ∨ flip < 0 ∨ (s.length : Int) ≤ flip) : turnL s flip x = s := by
  unfold turnL
  split
  · rename_i hc
    obtain ⟨h1, h2⟩ := hc
    have hx : x = 0 := by rcases h with h | h | h <;> first | exact h | omega
    subst hx
    obtain ⟨k, rfl⟩ : ∃ k : Nat, flip = k := ⟨flip.toNat, by omega⟩
    have hk : k < s.length := by omega
    rw [Int.toNat_natCast, UInt8.xor_zero, List.getD_eq_getElem?_getD, List.getElem?_eq_getElem hk]
    exact List.set_getElem_self hk
  · rfl
theorem turn_some (s : List UInt8) (flip : Int) (x : UInt8) (hx : x ≠ 0) (h0 : 0 ≤ flip) (h1 : flip < s.length) : turnL s flip x ≠ s := by
  unfold turnL
  rw [if_pos ⟨h0, h1⟩]
  obtain ⟨k, rfl⟩ : ∃ k : Nat, flip = k := ⟨flip.toNat, by omega⟩
  have hk : k < s.length := by omega
  intro e
  have := congrArg (fun l => l[k]?) e
  simp only [Int.toNat_natCast, List.getElem?_set_self hk] at this
  rw [List.getD_eq_getElem?_getD, List.getElem?_eq_getElem hk] at this
  simp only [Option.getD_some, Option.some.injEq] at this
  exact xor_ne hx this
theorem cut_all (s : List UInt8) (cut : Int) (h : cut < 0 ∨ (s.length : Int) ≤ cut) : cutL s cut = s := by
  unfold cutL
  split
  · rw [List.take_of_length_le (by omega)]
  · rfl
theorem cut_len (s : List UInt8) (cut : Int) (h0 : 0 ≤ cut) (h1 : cut ≤ s.length) : ((cutL s cut).length : Int) = cut := by
  unfold cutL
  rw [if_pos h0, List.length_take]
  omega
theorem read_prefix (l : List (List UInt8)) (cut flip : Int) (x : UInt8) (hl : ∀ p ∈ l, p.length ≤ MaxP) : (readL (carryL (framesL 0 l) cut flip x)).1 <+: l := by
  obtain ⟨c, k, b, e⟩ := carry_form (framesL 0 l) cut flip x
  unfold readL
  rw [e]
  exact read_carried l _ 0 c k b hl (Nat.le_refl _)
theorem read_whole (l : List (List UInt8)) (cut flip : Int) (x : UInt8) (hl : ∀ p ∈ l, p.length ≤ MaxP) (h1 : cut < 0 ∨ ((framesL 0 l).length : Int) ≤ cut) (h2 : x = 0 ∨ flip < 0 ∨ ((framesL 0 l).length : Int) ≤ flip) : readL (carryL (framesL 0 l) cut flip x) = (l, true) := by
  unfold carryL
  rw [cut_all _ _ h1, turn_none _ _ _ h2]
  exact read_all l _ 0 (Nat.le_refl _) hl
theorem read_told (l : List (List UInt8)) (cut flip : Int) (x : UInt8) (hl : ∀ p ∈ l, p.length ≤ MaxP) (hw : ¬ ((cut < 0 ∨ ((framesL 0 l).length : Int) ≤ cut) ∧ (x = 0 ∨ flip < 0 ∨ ((framesL 0 l).length : Int) ≤ flip))) (hg : (readL (carryL (framesL 0 l) cut flip x)).2 = true) :
    cut = ((framesL 0 (readL (carryL (framesL 0 l) cut flip x)).1).length : Nat) ∧ (x = 0 ∨ flip < 0 ∨ cut ≤ flip) := by
  have hp := read_prefix l cut flip x hl
  obtain ⟨⟨r, e1, e2⟩, _⟩ := read_is _ 0 (carryL (framesL 0 l) cut flip x) (Nat.le_refl _)
  unfold readL at hp hg ⊢
  have hr := e2.1 hg
  subst hr
  rw [List.append_nil] at e1
  obtain ⟨m, hm⟩ : ∃ m, (readGo (carryL (framesL 0 l) cut flip x).length 0 (carryL (framesL 0 l) cut flip x)).1 = m := ⟨_, rfl⟩
  rw [hm] at e1 hp ⊢
  clear hg e2 hm
  obtain ⟨t, rfl⟩ := hp
  obtain ⟨S, hS⟩ : ∃ S, framesL 0 (m ++ t) = S := ⟨_, rfl⟩
  have hpre : framesL 0 m = S.take (framesL 0 m).length := by
    rw [← hS, frames_app, List.take_append_of_le_length (Nat.le_refl _), List.take_of_length_le (Nat.le_refl _)]
  rw [hS] at hw e1
  have hlen := congrArg List.length e1
  unfold carryL at e1 hlen
  rw [turn_len] at hlen
  by_cases hc : cut < 0 ∨ (S.length : Int) ≤ cut
  · exfalso
    rw [cut_all _ _ hc] at e1 hlen
    rw [← hlen, List.take_of_length_le (Nat.le_refl _)] at hpre
    rw [hpre] at e1
    refine turn_some S flip x (fun h => hw ⟨hc, .inl h⟩) ?_ ?_ e1
    · exact Int.not_lt.1 fun h => hw ⟨hc, .inr (.inl h)⟩
    · exact Int.not_le.1 fun h => hw ⟨hc, .inr (.inr h)⟩
  · have hcl := cut_len S cut (by omega) (by omega)
    have hct : cutL S cut = framesL 0 m := by
      rw [hpre, ← hlen]
      unfold cutL
      rw [if_pos (by omega), List.length_take, Nat.min_eq_left (by omega)]
    rw [hct] at e1 hcl
    refine ⟨hcl.symm, ?_⟩
    by_cases hx : x = 0
    · exact .inl hx
    · by_cases hf : flip < 0
      · exact .inr (.inl hf)
      · by_cases hf2 : cut ≤ flip
        · exact .inr (.inr hf2)
        · exact absurd e1 (turn_some _ flip x hx (by omega) (by omega))
theorem carry_len (s : List UInt8) (cut flip : Int) (x : UInt8) : (carryL s cut flip x).length ≤ s.length := by
  unfold carryL
  rw [turn_len]
  unfold cutL
  split
  · rw [List.length_take]; omega
  · exact Nat.le_refl _
/-- A byte of what comes. -/
theorem carry_get (s : List UInt8) (cut flip : Int) (x : UInt8) (j : Nat) (b : UInt8) (hb : s[j]? = some b) (hc : cut < 0 ∨ (j : Int) < cut) : (carryL s cut flip x)[j]? = some (if (j : Int) = flip then b ^^^ x else b) := by
  have hj := (List.getElem?_eq_some_iff.1 hb).1
  have hcg : (cutL s cut)[j]? = some b := by
    unfold cutL
    split
    · rw [List.getElem?_take_of_lt (by omega), hb]
    · exact hb
  have hcj := (List.getElem?_eq_some_iff.1 hcg).1
  unfold carryL turnL
  by_cases hf : (j : Int) = flip
  · subst hf
    rw [if_pos rfl, if_pos ⟨by omega, by omega⟩, Int.toNat_natCast, List.getElem?_set_self hcj, List.getD_eq_getElem?_getD, hcg]
    rfl
  · rw [if_neg hf]
    split
    · rename_i h
      rw [List.getElem?_set_ne (by omega), hcg]
    · exact hcg
theorem carry_len_is (s : List UInt8) (cut flip : Int) (x : UInt8) : (carryL s cut flip x).length = if 0 ≤ cut then min cut.toNat s.length else s.length := by
  unfold carryL
  rw [turn_len]
  unfold cutL
  split
  · rw [List.length_take]
  · rfl
end Go.Proofs.YtbklnijmalnnoaaDoor.LP
