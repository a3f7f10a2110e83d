
/- Layer 9: the reader's calls Num, Count, Text, End in one shape each, over lists. -/
import Derived.Test.YtdkfoakmjeealaaQMxRdr
set_option linter.all false
set_option maxRecDepth 100000
set_option maxHeartbeats 25600000
namespace Go.Proofs.Ytdkfoakmjeealaa
namespace AP
open Go CP
/-- A reader: what is left, and its first fault. -/
abbrev Rd := List UInt8 × Nat
def rNum (r : Rd) : Nat × Rd :=
  if r.2 ≠ 0 then (0, r) else if (rd 0 0 r.1).2.2 ≠ 0 then (0, r.1, (rd 0 0 r.1).2.2) else ((rd 0 0 r.1).1, r.1.drop (rd 0 0 r.1).2.1, 0)
def rTxt (most : Int) (r : Rd) : List UInt8 × Rd :=
  if r.2 ≠ 0 then ([], r) else if (cnt r.1 most 1).2.2 ≠ 0 then ([], r.1, (cnt r.1 most 1).2.2)
  else ((r.1.drop (cnt r.1 most 1).2.1).take (cnt r.1 most 1).1, r.1.drop ((cnt r.1 most 1).2.1 + (cnt r.1 most 1).1), 0)
end AP
open Go.RowKit Go.Lib
namespace CR
open CP AP

/-- A reader, by what is left and its fault. -/
def At (bk : Nat) (r : Rd) (w : World) : Prop := ∃ s : ByteArray, s.data.toList = r.1 ∧ RdAt bk s (r.2 : Nat) w
theorem At.out {bk : Nat} {S : Nat → Prop} {r : Rd} {w w' : World} (h : At bk r w) (hb : FP.Out S w w') (hS : ¬ S bk) : At bk r w' := by
  obtain ⟨s, h1, h2⟩ := h
  exact ⟨s, h1, h2.out hb hS⟩
theorem At.lt {bk : Nat} {r : Rd} {w : World} (h : At bk r w) : bk < w.heap.size := by
  obtain ⟨s, _, h2⟩ := h
  exact h2.lt
def NPost (bk : Nat) (a : Nat × Rd) (w : World) (r : Ending) (w' : World) : Prop := r = .returned (.int .i64 (a.1 : Nat)) ∧ At bk a.2 w' ∧ FP.Out (· = bk) w w'
def TPost (bk : Nat) (a : List UInt8 × Rd) (w : World) (r : Ending) (w' : World) : Prop := r = .returned (.string ⟨a.1.toArray⟩) ∧ At bk a.2 w' ∧ FP.Out (· = bk) w w'
theorem num_all (bk : Nat) (r : Rd) (w : World) (h : At bk r w) (hs : r.1.length ≤ maxLen) :
    Calls Try.prog 43 #[ptr bk] w (NPost bk (rNum r) w) := by
  obtain ⟨l, f⟩ := r
  obtain ⟨s, hl, h⟩ := h
  simp only [] at hl h hs
  subst hl
  have hs : s.size ≤ maxLen := by rw [Lib.size_eq]; exact hs
  by_cases hf : f = 0
  · subst hf
    by_cases he : (rd 0 0 s.data.toList).2.2 = 0
    · have hR : rNum (s.data.toList, 0) = ((rd 0 0 s.data.toList).1, s.data.toList.drop (rd 0 0 s.data.toList).2.1, 0) := by
        unfold rNum
        rw [if_neg (by simp), if_neg (by simp [he])]
      rw [hR]
      refine (num_ok bk s w (rd 0 0 s.data.toList).1 (rd 0 0 s.data.toList).2.1 h hs (Prod.ext rfl (Prod.ext rfl he))).mono ?_
      rintro r w' ⟨rfl, s', h1, h2, h3⟩
      exact ⟨rfl, ⟨s', h1, h2⟩, h3⟩
    · have hR : rNum (s.data.toList, 0) = (0, s.data.toList, (rd 0 0 s.data.toList).2.2) := by
        unfold rNum
        rw [if_neg (by simp), if_pos he]
      rw [hR]
      refine (num_bad bk s w (rd 0 0 s.data.toList).2.2 h hs ?_ he).mono ?_
      · rcases rd_err s.data.toList 0 0 with h0 | h0 | h0
        · exact absurd h0 he
        · rw [h0]
        · rw [h0]
      · rintro r w' ⟨rfl, s', h1, h2, h3⟩
        exact ⟨rfl, ⟨s', h1, h2⟩, h3⟩
  · have hR : rNum (s.data.toList, f) = (0, s.data.toList, f) := by
      unfold rNum
      rw [if_pos hf]
    rw [hR]
    refine (num_stop bk s f w h (by omega)).mono ?_
    rintro r w' ⟨rfl, s', h1, h2, h3⟩
    exact ⟨rfl, ⟨s', h1, h2⟩, h3⟩
theorem cnt_zero {l : List UInt8} {most least : Int} (h : (cnt l most least).2.2 ≠ 0) : cnt l most least = (0, 0, (cnt l most least).2.2) := by
  rcases cnt_cases l most least with ⟨h1, h2, _⟩ | ⟨e, h1, _⟩
  · rw [h1] at h
    exact absurd h2 h
  · rw [h1]
theorem bytes_of {u : ByteArray} {l : List UInt8} (h : u.data.toList = l) : u = ⟨l.toArray⟩ := by rw [← h]
theorem text_all (bk : Nat) (most : Int) (r : Rd) (w : World) (h : At bk r w) (hs : r.1.length ≤ maxLen) :
    Calls Try.prog 44 #[ptr bk, .int .i64 most] w (TPost bk (rTxt most r) w) := by
  obtain ⟨l, f⟩ := r
  obtain ⟨s, hl, h⟩ := h
  simp only [] at hl h hs
  subst hl
  have hs : s.size ≤ maxLen := by rw [Lib.size_eq]; exact hs
  by_cases hf : f = 0
  · subst hf
    by_cases he : (cnt s.data.toList most 1).2.2 = 0
    · have hR : rTxt most (s.data.toList, 0) = ((s.data.toList.drop (cnt s.data.toList most 1).2.1).take (cnt s.data.toList most 1).1, s.data.toList.drop ((cnt s.data.toList most 1).2.1 + (cnt s.data.toList most 1).1), 0) := by
        unfold rTxt
        rw [if_neg (by simp), if_neg (by simp [he])]
      rw [hR]
      refine (text_ok bk s most w (cnt s.data.toList most 1).1 (cnt s.data.toList most 1).2.1 h hs (Prod.ext rfl (Prod.ext rfl he))).mono ?_
      rintro r w' ⟨u, hu, rfl, s', h1, h2, h3⟩
      exact ⟨by rw [bytes_of hu], ⟨s', h1, h2⟩, h3⟩
    · have hR : rTxt most (s.data.toList, 0) = ([], s.data.toList, (cnt s.data.toList most 1).2.2) := by
        unfold rTxt
        rw [if_neg (by simp), if_pos he]
      rw [hR]
      refine (text_bad bk s most w (cnt s.data.toList most 1).2.2 h hs (cnt_zero he) he).mono ?_
      rintro r w' ⟨u, hu, rfl, s', h1, h2, h3⟩
      exact ⟨by rw [bytes_of hu], ⟨s', h1, h2⟩, h3⟩
  · have hR : rTxt most (s.data.toList, f) = ([], s.data.toList, f) := by
      unfold rTxt
      rw [if_pos hf]
    rw [hR]
    refine (text_stop bk s f most w h (by omega)).mono ?_
    rintro r w' ⟨u, hu, rfl, s', h1, h2, h3⟩
    exact ⟨by rw [bytes_of hu], ⟨s', h1, h2⟩, h3⟩
/-- What End tells. -/
def endR (r : Rd) : Nat := if r.2 ≠ 0 then r.2 else if r.1 = [] then 0 else 32
theorem end_all (bk : Nat) (r : Rd) (w : World) (h : At bk r w) (hs : r.1.length ≤ maxLen) :
    Calls Try.prog 46 #[ptr bk] w fun e w' => e = .returned (.int .i64 (endR r : Nat)) ∧ w = w' := by
  obtain ⟨l, f⟩ := r
  obtain ⟨s, hl, h⟩ := h
  simp only [] at hl h hs
  subst hl
  refine (end_any bk s f w h (by rw [Lib.size_eq]; exact hs)).mono ?_
  rintro e w' ⟨rfl, rfl⟩
  refine ⟨?_, rfl⟩
  unfold endR
  by_cases hf : f = 0
  · subst hf
    by_cases hl : s.data.toList = []
    · simp [hl]
    · simp [hl]
  · simp [hf]
theorem end_ok (r : Rd) : endR r = 0 ↔ r.2 = 0 ∧ r.1 = [] := by
  unfold endR
  by_cases hf : r.2 = 0
  · by_cases hl : r.1 = []
    · simp [hf, hl]
    · simp [hf, hl]
  · simp [hf]
end CR
end Go.Proofs.Ytdkfoakmjeealaa
