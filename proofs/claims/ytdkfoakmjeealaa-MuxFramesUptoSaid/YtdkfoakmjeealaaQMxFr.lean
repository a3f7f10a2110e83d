/- Layer 16: a frame's bytes over lists: there and back. -/
import Derived.Test.YtdkfoakmjeealaaQMxFl
set_option linter.all false
set_option maxRecDepth 100000
set_option maxHeartbeats 25600000
namespace Go.Proofs.Ytdkfoakmjeealaa
open Go.RowKit Go.Lib Go.BigFrame
namespace MX
open CP AP

def encF (f : Fr) : List UInt8 := if f.call < 0 ∨ f.pos < 0 then [] else numS f.call ++ (numS f.pos ++ (textS f.text ++ flagS f.last))
def decF (s : List UInt8) : Option Fr :=
  let a := rNum (s, 0); let b := rNum a.2; let c := rTxt 65536 b.2; let d := rFlag c.2
  if CR.endR d.2 = 0 then some ⟨a.1, b.1, c.1, d.1⟩ else none
theorem num_to (n : Nat) (r : List UInt8) (h : n < 2 ^ 63) : rNum (nm n ++ r, 0) = (n, r, 0) := by
  have h1 := CQ.rd_head (m := n) (r := r) h
  unfold rNum
  rw [if_neg (by simp), h1, if_neg (by simp), List.drop_left' rfl]
theorem txt_to (t r : List UInt8) (h : t.length ≤ 65536) : rTxt 65536 (textS t ++ r, 0) = (t, r, 0) := by
  have h1 := CQ.rd_head (m := t.length) (r := t ++ r) (by omega)
  have e : textS t ++ r = nm t.length ++ (t ++ r) := by unfold textS; rw [List.append_assoc]
  have hc : cnt (textS t ++ r) 65536 1 = (t.length, (nm t.length).length, 0) := by
    rw [e]
    unfold cnt
    rw [h1, if_neg (by simp), if_neg (by simp only []; omega)]
    rw [if_neg]
    simp only [List.length_append]
    have hm : max (1 : Int) 1 = 1 := rfl
    rw [hm, Int.ediv_one]
    omega
  unfold rTxt
  rw [if_neg (by simp)]
  simp only
  rw [hc, if_neg (by simp)]
  simp only
  rw [CQ.text_mid, CQ.text_end]
theorem flag_to (b : Bool) (r : List UInt8) : rFlag (flagS b ++ r, 0) = (b, r, 0) := by
  cases b <;> rfl
theorem dec_enc (f : Fr) (h0 : 0 ≤ f.call) (h1 : 0 ≤ f.pos) (h2 : f.call < 2 ^ 63) (h3 : f.pos < 2 ^ 63) (ht : f.text.length ≤ 65536) : decF (encF f) = some f := by
  obtain ⟨a, p, t, l⟩ := f
  simp only at h0 h1 h2 h3 ht
  obtain ⟨n, rfl⟩ : ∃ n : Nat, a = n := ⟨a.toNat, by omega⟩
  obtain ⟨m, rfl⟩ : ∃ m : Nat, p = m := ⟨p.toNat, by omega⟩
  have e : ∀ k : Nat, numS (k : Int) = nm k := fun k => by unfold numS; rw [if_neg (by omega)]; rfl
  have hE : encF ⟨(n : Nat), (m : Nat), t, l⟩ = nm n ++ (nm m ++ (textS t ++ flagS l)) := by
    unfold encF
    rw [if_neg (by show ¬ ((n : Int) < 0 ∨ (m : Int) < 0); omega)]
    show numS (n : Int) ++ (numS (m : Int) ++ _) = _
    rw [e, e]
  rw [hE]
  unfold decF
  simp only
  rw [num_to n _ (by omega)]
  simp only
  rw [num_to m _ (by omega)]
  simp only
  rw [txt_to t _ ht]
  simp only
  have hf := flag_to l []
  rw [List.append_nil] at hf
  rw [hf]
  simp only
  exact if_pos (by decide)
theorem num_back {r : Rd} (h : (rNum r).2.2 = 0) : r.2 = 0 ∧ r.1 = nm (rNum r).1 ++ (rNum r).2.1 ∧ (rNum r).1 < 2 ^ 63 := by
  unfold rNum at h ⊢
  by_cases h0 : r.2 = 0
  · rw [if_neg (not_not_intro h0)] at h ⊢
    by_cases h1 : (rd 0 0 r.1).2.2 = 0
    · rw [if_neg (not_not_intro h1)]
      simp only
      obtain ⟨e1, e2, e3, e4⟩ := rd_one (l := r.1) (x := (rd 0 0 r.1).1) (w := (rd 0 0 r.1).2.1) (Prod.ext rfl (Prod.ext rfl h1))
      refine ⟨h0, ?_, by have : (128 : Nat) ^ 9 = 2 ^ 63 := by decide
                         omega⟩
      rw [← e1, List.take_append_drop]
    · rw [if_pos h1] at h
      exact absurd h h1
  · rw [if_pos h0] at h
    exact absurd h h0
theorem txt_back {r : Rd} (h : (rTxt 65536 r).2.2 = 0) : r.2 = 0 ∧ r.1 = textS (rTxt 65536 r).1 ++ (rTxt 65536 r).2.1 ∧ (rTxt 65536 r).1.length ≤ 65536 := by
  unfold rTxt at h ⊢
  by_cases h0 : r.2 = 0
  · rw [if_neg (not_not_intro h0)] at h ⊢
    by_cases h1 : (cnt r.1 65536 1).2.2 = 0
    · rw [if_neg (not_not_intro h1)]
      simp only
      obtain ⟨x, hx⟩ : ∃ x, (cnt r.1 65536 1).1 = x := ⟨_, rfl⟩
      obtain ⟨wd, hwd⟩ : ∃ wd, (cnt r.1 65536 1).2.1 = wd := ⟨_, rfl⟩
      have hc : cnt r.1 65536 1 = (x, wd, 0) := Prod.ext hx (Prod.ext hwd h1)
      rw [hx, hwd]
      obtain ⟨e1, e2, e3⟩ := CR.cnt_is hc
      obtain ⟨g1, g2, g3, g4⟩ := rd_one e1
      have hroom := CR.text_room hc
      have hl : ((r.1.drop wd).take x).length = x := by rw [List.length_take, List.length_drop]; omega
      refine ⟨h0, ?_, by rw [hl]; omega⟩
      unfold textS
      rw [hl, ← g1, List.append_assoc, ← List.drop_drop, List.take_append_drop, List.take_append_drop]
    · rw [if_pos h1] at h
      exact absurd h h1
  · rw [if_pos h0] at h
    exact absurd h h0
theorem flag_back {r : Rd} (h : (rFlag r).2.2 = 0) : r.2 = 0 ∧ r.1 = flagS (rFlag r).1 ++ (rFlag r).2.1 := by
  obtain ⟨l, e⟩ := r
  unfold rFlag at h ⊢
  by_cases h0 : e = 0
  · subst h0
    rw [if_neg (by simp)] at h ⊢
    cases l with
    | nil => exact absurd h (by decide)
    | cons b t =>
      simp only at h ⊢
      by_cases hb : 1 < b.toNat
      · rw [if_pos hb] at h
        exact absurd h (by simp)
      · rw [if_neg hb]
        refine ⟨trivial, ?_⟩
        by_cases e0 : b = 0
        · subst e0; rfl
        · have h1 : b = 1 := by
            apply UInt8.toNat_inj.1
            have : b.toNat ≠ 0 := fun e => e0 (UInt8.toNat_inj.1 e)
            have e1 : (1 : UInt8).toNat = 1 := rfl
            omega
          subst h1
          rfl
  · rw [if_pos h0] at h
    exact absurd h h0
theorem enc_dec {s : List UInt8} {f : Fr} (h : decF s = some f) : encF f = s ∧ f.text.length ≤ 65536 ∧ f.call < 2 ^ 63 ∧ f.pos < 2 ^ 63 := by
  unfold decF at h
  simp only at h
  split at h
  · rename_i he
    obtain ⟨h4, h5⟩ := (CR.end_ok _).1 he
    injection h with h
    subst h
    obtain ⟨f1, f2⟩ := flag_back h4
    obtain ⟨t1, t2, t3⟩ := txt_back f1
    obtain ⟨b1, b2, b3⟩ := num_back t1
    obtain ⟨a1, a2, a3⟩ := num_back b1
    rw [h5, List.append_nil] at f2
    have e : ∀ k : Nat, numS (k : Int) = nm k := fun k => by unfold numS; rw [if_neg (by omega)]; rfl
    refine ⟨?_, t3, by show ((_ : Nat) : Int) < _; omega, by show ((_ : Nat) : Int) < _; omega⟩
    unfold encF
    simp only
    rw [if_neg (by omega), e, e, ← f2, ← t2, ← b2]
    exact a2.symm
  · cases h
end MX
end Go.Proofs.Ytdkfoakmjeealaa
