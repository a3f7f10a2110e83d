/- Layer 15's frames over lists of bytes, and what comes of them over a line (no program is read here). -/
import Derived.Test.YtbklnijmalnnoaaDoorQRecPlain
set_option linter.all false
set_option maxRecDepth 100000
set_option maxHeartbeats 25600000
namespace Go.Proofs.YtbklnijmalnnoaaDoor.LP
open Go HP HS RP

/-- The frame of the message of a number. -/
def frameL (n : Nat) (p : List UInt8) : List UInt8 := be4 p.length ++ be4 (crcL (be4 p.length)) ++ be4 (crcL (be4 n ++ p)) ++ p
/-- The frame with which a text begins: its payload, and what is behind it. -/
def nextF (n : Nat) (s : List UInt8) : Option (List UInt8 × List UInt8) :=
  if 12 ≤ s.length ∧ num4 s 0 ≤ MaxP ∧ num4 s 0 + 12 ≤ s.length ∧ s.take (12 + num4 s 0) = frameL n ((s.drop 12).take (num4 s 0)) then some ((s.drop 12).take (num4 s 0), s.drop (12 + num4 s 0)) else none
/-- The messages with which a text begins, and whether that is all of it. -/
def readGo : Nat → Nat → List UInt8 → List (List UInt8) × Bool
  | 0, _, s => ([], s == [])
  | f + 1, n, s =>
    if s = [] then ([], true)
    else match nextF n s with
      | none => ([], false)
      | some (p, r) => (p :: (readGo f (n + 1) r).1, (readGo f (n + 1) r).2)
/-- The frames of messages, numbered from here on. -/
def framesL : Nat → List (List UInt8) → List UInt8
  | _, [] => []
  | n, p :: l => frameL n p ++ framesL (n + 1) l

theorem frame_len (n : Nat) (p : List UInt8) : (frameL n p).length = p.length + 12 := by
  unfold frameL
  simp only [List.length_append, be4_len]
  omega
theorem be4_inj {a b : Nat} (ha : a < 4294967296) (hb : b < 4294967296) (h : be4 a = be4 b) : a = b := by
  have n1 := num_be4 [] a [] 0 ha rfl
  have n2 := num_be4 [] b [] 0 hb rfl
  rw [← n1, ← n2, h]
theorem four_cases (l : List UInt8) (h : l.length = 4) : ∃ a b c d, l = [a, b, c, d] := by
  match l, h with
  | [a, b, c, d], _ => exact ⟨a, b, c, d, rfl⟩
theorem crc_be4 {a b : Nat} (ha : a < 4294967296) (hb : b < 4294967296) (q : List UInt8) (h : crcL (be4 a ++ q) = crcL (be4 b ++ q)) : a = b := by
  refine be4_inj ha hb ?_
  obtain ⟨x, y, z, w, e⟩ := four_cases _ (be4_len a)
  obtain ⟨x2, y2, z2, w2, e2⟩ := four_cases _ (be4_len b)
  rw [e, e2] at h ⊢
  obtain ⟨rfl, rfl, rfl, rfl⟩ := crc_turned (p := []) (q := q) h
  rfl
theorem frame_ne (n : Nat) (p r : List UInt8) : frameL n p ++ r ≠ [] := fun h => by
  have := congrArg List.length h
  rw [List.length_append, frame_len] at this
  simp at this
theorem num_frame (n : Nat) (p r : List UInt8) (h : p.length ≤ MaxP) : num4 (frameL n p ++ r) 0 = p.length := by
  unfold frameL
  rw [List.append_assoc, List.append_assoc, List.append_assoc]
  exact num_be4 [] p.length _ 0 (by unfold MaxP at h; omega) rfl
theorem frame_head (n : Nat) (p : List UInt8) : ∃ x, frameL n p = x ++ p ∧ x.length = 12 := ⟨be4 p.length ++ be4 (crcL (be4 p.length)) ++ be4 (crcL (be4 n ++ p)), rfl, by simp only [List.length_append, be4_len]⟩
theorem drop_frame (n : Nat) (p r : List UInt8) : (frameL n p ++ r).drop 12 = p ++ r := by
  obtain ⟨x, e, hx⟩ := frame_head n p
  rw [e, List.append_assoc, List.drop_append_of_le_length (by omega), List.drop_of_length_le (by omega)]
  rfl
theorem next_frame (n : Nat) (p r : List UInt8) (h : p.length ≤ MaxP) : nextF n (frameL n p ++ r) = some (p, r) := by
  have hl : (frameL n p ++ r).length = p.length + 12 + r.length := by rw [List.length_append, frame_len]
  have htk : ((frameL n p ++ r).drop 12).take p.length = p := by
    rw [drop_frame, List.take_append_of_le_length (Nat.le_refl _), List.take_of_length_le (Nat.le_refl _)]
  have hd2 : (frameL n p ++ r).drop (12 + p.length) = r := by
    rw [← List.drop_drop, drop_frame, List.drop_append_of_le_length (Nat.le_refl _), List.drop_of_length_le (Nat.le_refl _)]
    rfl
  have ht : (frameL n p ++ r).take (12 + p.length) = frameL n p := by
    rw [List.take_append_of_le_length (by rw [frame_len]; omega), List.take_of_length_le (by rw [frame_len]; omega)]
  unfold nextF
  rw [num_frame n p r h, htk, hd2, ht, if_pos ⟨by omega, h, by omega, rfl⟩]
theorem next_some {n : Nat} {s p r : List UInt8} (h : nextF n s = some (p, r)) : s = frameL n p ++ r ∧ p.length ≤ MaxP := by
  unfold nextF at h
  split at h
  · rename_i hc
    obtain ⟨h1, h2, h3, h4⟩ := hc
    simp only [Option.some.injEq, Prod.mk.injEq] at h
    obtain ⟨rfl, rfl⟩ := h
    refine ⟨?_, by rw [List.length_take]; omega⟩
    rw [← h4, List.take_append_drop]
  · simp at h
theorem next_none {n : Nat} {s : List UInt8} (h : nextF n s = none) (p r : List UInt8) (hp : p.length ≤ MaxP) : s ≠ frameL n p ++ r := fun e => by
  rw [e, next_frame n p r hp] at h
  simp at h
theorem read_end : ∀ (f n : Nat), readGo f n [] = ([], true)
  | 0, _ => rfl
  | _ + 1, _ => rfl
theorem read_frames : ∀ (l : List (List UInt8)) (f n : Nat) (r : List UInt8), (framesL n l ++ r).length ≤ f → (∀ p ∈ l, p.length ≤ MaxP) → ∃ g, r.length ≤ g ∧ g ≤ f ∧ readGo f n (framesL n l ++ r) = (l ++ (readGo g (n + l.length) r).1, (readGo g (n + l.length) r).2)
  | [], f, n, r, h, _ => ⟨f, h, Nat.le_refl _, rfl⟩
  | p :: l, 0, n, r, h, _ => by
    unfold framesL at h
    rw [List.length_append, List.length_append, frame_len] at h
    omega
  | p :: l, f + 1, n, r, h, hp => by
    have e : framesL n (p :: l) ++ r = frameL n p ++ (framesL (n + 1) l ++ r) := by rw [framesL, List.append_assoc]
    rw [e] at h ⊢
    rw [List.length_append, frame_len] at h
    obtain ⟨g, h1, h2, h3⟩ := read_frames l f (n + 1) r (by omega) (fun q hq => hp q (List.mem_cons_of_mem _ hq))
    refine ⟨g, h1, by omega, ?_⟩
    rw [readGo, if_neg (frame_ne n p _), next_frame n p _ (hp p (List.mem_cons_self ..))]
    simp only
    rw [h3, show n + 1 + l.length = n + (p :: l).length by rw [List.length_cons]; omega]
    rfl
/-- Frames are read as what they are. -/
theorem read_all (l : List (List UInt8)) (f n : Nat) (h : (framesL n l).length ≤ f) (hp : ∀ p ∈ l, p.length ≤ MaxP) : readGo f n (framesL n l) = (l, true) := by
  obtain ⟨g, _, _, h3⟩ := read_frames l f n [] (by rw [List.append_nil]; exact h) hp
  rw [List.append_nil, read_end, List.append_nil] at h3
  exact h3
/-- What is read stands there; with true it is all. -/
theorem read_is : ∀ (f n : Nat) (s : List UInt8), s.length ≤ f → (∃ r, s = framesL n (readGo f n s).1 ++ r ∧ ((readGo f n s).2 = true ↔ r = [])) ∧ ∀ p ∈ (readGo f n s).1, p.length ≤ MaxP
  | 0, n, s, h => by
    have e : s = [] := List.eq_nil_of_length_eq_zero (by omega)
    subst e
    exact ⟨⟨[], rfl, by simp [readGo]⟩, fun p hp => by simp [readGo] at hp⟩
  | f + 1, n, s, h => by
    rw [readGo]
    by_cases h0 : s = []
    · subst h0
      rw [if_pos rfl]
      exact ⟨⟨[], rfl, by simp⟩, fun p hp => by simp at hp⟩
    · rw [if_neg h0]
      cases hn : nextF n s with
      | none => exact ⟨⟨s, rfl, by simp [h0]⟩, fun p hp => by simp at hp⟩
      | some x =>
        obtain ⟨p, r⟩ := x
        obtain ⟨hs, hp⟩ := next_some hn
        have hl : s.length = p.length + 12 + r.length := by rw [hs, List.length_append, frame_len]
        obtain ⟨⟨r2, i1, i2⟩, i3⟩ := read_is f (n + 1) r (by omega)
        simp only
        refine ⟨⟨r2, ?_, i2⟩, fun q hq => ?_⟩
        · rw [framesL, List.append_assoc, ← i1]
          exact hs
        · rcases List.mem_cons.1 hq with rfl | hq
          · exact hp
          · exact i3 q hq
theorem read_len : ∀ (f n : Nat) (s : List UInt8), s.length ≤ f → (readGo f n s).1.length * 12 ≤ s.length := fun f n s h => by
  obtain ⟨⟨r, e, _⟩, _⟩ := read_is f n s h
  have g : ∀ (l : List (List UInt8)) n, l.length * 12 ≤ (framesL n l).length := fun l => by
    induction l with
    | nil => intro n; simp [framesL]
    | cons p l ih => intro n; rw [framesL, List.length_append, frame_len, List.length_cons]; have := ih (n + 1); omega
  have := congrArg List.length e
  rw [List.length_append] at this
  have := g (readGo f n s).1 n
  omega
/-- The fuel is no matter, as long as it is enough. -/
theorem read_fuel : ∀ (f g n : Nat) (s : List UInt8), s.length ≤ f → s.length ≤ g → readGo f n s = readGo g n s
  | 0, g, n, s, h, _ => by
    have e : s = [] := List.eq_nil_of_length_eq_zero (by omega)
    subst e
    rw [read_end, read_end]
  | f + 1, 0, n, s, _, h => by
    have e : s = [] := List.eq_nil_of_length_eq_zero (by omega)
    subst e
    rw [read_end, read_end]
  | f + 1, g + 1, n, s, h, h2 => by
    rw [readGo, readGo]
    by_cases h0 : s = []
    · rw [if_pos h0, if_pos h0]
    · rw [if_neg h0, if_neg h0]
      cases hn : nextF n s with
      | none => rfl
      | some x =>
        obtain ⟨p, r⟩ := x
        obtain ⟨hs, hp⟩ := next_some hn
        have hl : s.length = p.length + 12 + r.length := by rw [hs, List.length_append, frame_len]
        simp only
        rw [read_fuel f g (n + 1) r (by omega) (by omega)]

-- what comes over a line

/-- Where two lists are the same but at one place, what begins a frame begins that one. -/
theorem near_frame {n : Nat} {C F p q r rest : List UInt8} {k : Nat} (hC : C = frameL n q ++ r) (hF : F = frameL n p ++ rest) (hp : p.length ≤ MaxP) (hq : q.length ≤ MaxP) (hn : ∀ j, j ≠ k → j < C.length → C[j]? = F[j]?) : q = p := by
  have hCl : C.length = q.length + 12 + r.length := by rw [hC, List.length_append, frame_len]
  have hM : p.length < 4294967296 := by unfold MaxP at hp; omega
  have hM2 : q.length < 4294967296 := by unfold MaxP at hq; omega
  have g1 : ∀ (x z : List UInt8) j, j < 4 → (frameL n x ++ z)[j]? = (be4 x.length)[j]? := fun x z j hj => by
    unfold frameL
    rw [List.append_assoc, List.append_assoc, List.append_assoc, List.getElem?_append_left (by rw [be4_len]; exact hj)]
  have g2 : ∀ (x z : List UInt8) j, j < 4 → (frameL n x ++ z)[4 + j]? = (be4 (crcL (be4 x.length)))[j]? := fun x z j hj => by
    unfold frameL
    rw [List.append_assoc, List.append_assoc, List.append_assoc, List.getElem?_append_right (by rw [be4_len]; omega), be4_len, Nat.add_sub_cancel_left, List.getElem?_append_left (by rw [be4_len]; exact hj)]
  have g3 : ∀ (x z : List UInt8) j, j < 4 → (frameL n x ++ z)[8 + j]? = (be4 (crcL (be4 n ++ x)))[j]? := fun x z j hj => by
    unfold frameL
    rw [List.append_assoc, List.append_assoc, List.getElem?_append_right (by rw [List.length_append, be4_len, be4_len]; omega), List.length_append, be4_len, be4_len, Nat.add_sub_cancel_left, List.getElem?_append_left (by rw [be4_len]; exact hj)]
  have g4 : ∀ (x z : List UInt8) j, j < x.length → (frameL n x ++ z)[12 + j]? = x[j]? := fun x z j hj => by
    obtain ⟨y, e, hy⟩ := frame_head n x
    rw [e, List.append_assoc, List.getElem?_append_right (by omega), hy, Nat.add_sub_cancel_left, List.getElem?_append_left hj]
  have four : ∀ a b : Nat, (∀ j, j < 4 → (be4 a)[j]? = (be4 b)[j]?) → be4 a = be4 b := fun a b h => List.ext_getElem? fun j => by
    by_cases hj : j < 4
    · exact h j hj
    · rw [List.getElem?_eq_none (by rw [be4_len]; omega), List.getElem?_eq_none (by rw [be4_len]; omega)]
  have hlen : q.length = p.length := by
    by_cases h4 : k < 4
    · have e : be4 (crcL (be4 q.length)) = be4 (crcL (be4 p.length)) := four _ _ fun j hj => by
        have := hn (4 + j) (by omega) (by omega)
        rw [hC, hF, g2 _ _ _ hj, g2 _ _ _ hj] at this
        exact this
      have e2 := be4_inj (crcL_lt _) (crcL_lt _) e
      rw [← List.append_nil (be4 q.length), ← List.append_nil (be4 p.length)] at e2
      exact crc_be4 hM2 hM [] e2
    · refine be4_inj hM2 hM (four _ _ fun j hj => ?_)
      have := hn j (by omega) (by omega)
      rw [hC, hF, g1 _ _ _ hj, g1 _ _ _ hj] at this
      exact this
  have hget : ∀ j, 12 + j ≠ k → j < q.length → q[j]? = p[j]? := fun j hj hlt => by
    have := hn (12 + j) hj (by omega)
    rw [hC, hF, g4 _ _ _ hlt, g4 _ _ _ (by omega)] at this
    exact this
  by_cases h12 : k < 12
  · refine List.ext_getElem? fun j => ?_
    by_cases hj : j < q.length
    · exact hget j (by omega) hj
    · rw [List.getElem?_eq_none (by omega), List.getElem?_eq_none (by omega)]
  · obtain ⟨i, rfl⟩ : ∃ i, k = 12 + i := ⟨k - 12, by omega⟩
    by_cases hi : i < q.length
    · have hip : i < p.length := by omega
      have hcr : crcL (be4 n ++ q) = crcL (be4 n ++ p) := by
        refine be4_inj (crcL_lt _) (crcL_lt _) (four _ _ fun j hj => ?_)
        have := hn (8 + j) (by omega) (by omega)
        rw [hC, hF, g3 _ _ _ hj, g3 _ _ _ hj] at this
        exact this
      have htake : q.take i = p.take i := List.ext_getElem? fun j => by
        by_cases hj : j < i
        · rw [List.getElem?_take_of_lt hj, List.getElem?_take_of_lt hj, hget j (by omega) (by omega)]
        · rw [List.getElem?_eq_none (by rw [List.length_take]; omega), List.getElem?_eq_none (by rw [List.length_take]; omega)]
      have hdrop : q.drop (i + 1) = p.drop (i + 1) := List.ext_getElem? fun j => by
        rw [List.getElem?_drop, List.getElem?_drop]
        by_cases hj : i + 1 + j < q.length
        · exact hget _ (by omega) hj
        · rw [List.getElem?_eq_none (by omega), List.getElem?_eq_none (by omega)]
      have ep : p = p.take i ++ p[i] :: p.drop (i + 1) := by rw [← List.drop_eq_getElem_cons hip, List.take_append_drop]
      have eq : q = q.take i ++ q[i] :: q.drop (i + 1) := by rw [← List.drop_eq_getElem_cons hi, List.take_append_drop]
      have hb : q[i] = p[i] := by
        refine crc_one (P := be4 n ++ q.take i) (v := q.drop (i + 1)) (by rw [List.length_append, be4_len]; omega) ?_
        rw [List.append_assoc, List.append_assoc, ← eq, hcr, htake, hdrop, ← ep]
      rw [eq, ep, htake, hdrop, hb]
    · refine List.ext_getElem? fun j => ?_
      by_cases hj : j < q.length
      · exact hget j (by omega) hj
      · rw [List.getElem?_eq_none (by omega), List.getElem?_eq_none (by omega)]
theorem get_carried (F : List UInt8) (c k : Nat) (b : UInt8) (j : Nat) (hj : j ≠ k) (hl : j < ((F.take c).set k b).length) : ((F.take c).set k b)[j]? = F[j]? := by
  rw [List.length_set, List.length_take] at hl
  rw [List.getElem?_set_ne (fun h => hj h.symm), List.getElem?_take_of_lt (by omega)]
/-- Of frames that are cut, and in which a byte is another one, a beginning of the messages is read. -/
theorem read_carried : ∀ (l : List (List UInt8)) (f n c k : Nat) (b : UInt8), (∀ p ∈ l, p.length ≤ MaxP) → (((framesL n l).take c).set k b).length ≤ f → (readGo f n (((framesL n l).take c).set k b)).1 <+: l
  | [], f, n, c, k, b, _, _ => by
    have e : ((framesL n []).take c).set k b = [] := by simp [framesL]
    rw [e, read_end]
    exact List.nil_prefix
  | p :: l, 0, n, c, k, b, _, h => by
    have e := List.eq_nil_of_length_eq_zero (Nat.le_zero.1 h)
    rw [e]
    exact List.nil_prefix
  | p :: l, f + 1, n, c, k, b, hp, h => by
    obtain ⟨C, hCd⟩ : ∃ C, C = ((framesL n (p :: l)).take c).set k b := ⟨_, rfl⟩
    rw [← hCd] at h ⊢
    rw [readGo]
    by_cases h0 : C = []
    · rw [if_pos h0]
      exact List.nil_prefix
    · rw [if_neg h0]
      cases hn : nextF n C with
      | none => exact List.nil_prefix
      | some x =>
        obtain ⟨q, r⟩ := x
        obtain ⟨hs, hq⟩ := next_some hn
        have hpp := hp p (List.mem_cons_self ..)
        have hqp : q = p := near_frame (k := k) hs (show framesL n (p :: l) = frameL n p ++ framesL (n + 1) l from rfl) hpp hq (fun j hj hl => by
          rw [hCd] at hl ⊢
          exact get_carried _ c k b j hj hl)
        subst hqp
        simp only
        have hr : ∃ k2, r = ((framesL (n + 1) l).take (c - (frameL n q).length)).set k2 b := by
          have hd : r = C.drop (frameL n q).length := by
            rw [hs, List.drop_append_of_le_length (Nat.le_refl _), List.drop_of_length_le (Nat.le_refl _)]
            rfl
          have ht : ((framesL n (q :: l)).take c).drop (frameL n q).length = (framesL (n + 1) l).take (c - (frameL n q).length) := by
            rw [List.drop_take, framesL, List.drop_append_of_le_length (Nat.le_refl _), List.drop_of_length_le (Nat.le_refl _)]
            rfl
          rw [hCd, List.drop_set] at hd
          by_cases hk : k < (frameL n q).length
          · rw [if_pos hk, ht] at hd
            exact ⟨((framesL (n + 1) l).take (c - (frameL n q).length)).length, by rw [List.set_eq_of_length_le (Nat.le_refl _)]; exact hd⟩
          · rw [if_neg hk, ht] at hd
            exact ⟨_, hd⟩
        obtain ⟨k2, hr⟩ := hr
        have hrl : r.length ≤ f := by
          have := congrArg List.length hs
          rw [List.length_append, frame_len] at this
          omega
        have ih := read_carried l f (n + 1) (c - (frameL n q).length) k2 b (fun x hx => hp x (List.mem_cons_of_mem _ hx)) (by rw [← hr]; exact hrl)
        rw [← hr] at ih
        exact (List.prefix_cons_inj q).2 ih
theorem frames_app : ∀ (a b : List (List UInt8)) (n : Nat), framesL n (a ++ b) = framesL n a ++ framesL (n + a.length) b
  | [], b, n => rfl
  | p :: a, b, n => by
    rw [List.cons_append, framesL, framesL, frames_app a b (n + 1), List.append_assoc, List.length_cons, show n + 1 + a.length = n + (a.length + 1) by omega]
theorem frames_pos (n : Nat) (p : List UInt8) (l : List (List UInt8)) : 12 ≤ (framesL n (p :: l)).length := by
  rw [framesL, List.length_append, frame_len]
  omega
/-- Frames of a beginning that are as long as all are all. -/
theorem prefix_all {m l : List (List UInt8)} {n : Nat} (h : m <+: l) (hl : (framesL n m).length = (framesL n l).length) : m = l := by
  obtain ⟨t, rfl⟩ := h
  cases t with
  | nil => rw [List.append_nil]
  | cons x t =>
    rw [frames_app, List.length_append] at hl
    have := frames_pos (n + m.length) x t
    omega
/-- A message more is read behind the others. -/
theorem read_more (l : List (List UInt8)) (p : List UInt8) (f : Nat) (hf : (framesL 0 l ++ frameL l.length p).length ≤ f) (hl : ∀ p ∈ l, p.length ≤ MaxP) (hp : p.length ≤ MaxP) : readGo f 0 (framesL 0 l ++ frameL l.length p) = (l ++ [p], true) := by
  have e : framesL 0 (l ++ [p]) = framesL 0 l ++ frameL l.length p := by rw [frames_app, Nat.zero_add, framesL, framesL, List.append_nil]
  rw [← e] at hf ⊢
  refine read_all (l ++ [p]) f 0 hf fun q hq => ?_
  rcases List.mem_append.1 hq with h | h
  · exact hl q h
  · rw [List.mem_singleton.1 h]; exact hp
/-- Out of its turn it isn't. -/
theorem read_other (l : List (List UInt8)) (p : List UInt8) (f n : Nat) (hf : (framesL 0 l ++ frameL n p).length ≤ f) (hl : ∀ p ∈ l, p.length ≤ MaxP) (hp : p.length ≤ MaxP) (hn : n < 4294967296) (hll : l.length < 4294967296) (hne : n ≠ l.length) : readGo f 0 (framesL 0 l ++ frameL n p) = (l, false) := by
  obtain ⟨g, h1, h2, h3⟩ := read_frames l f 0 (frameL n p) hf hl
  rw [Nat.zero_add] at h3
  have hno : nextF l.length (frameL n p) = none := by
    cases hx : nextF l.length (frameL n p) with
    | none => rfl
    | some x =>
      exfalso
      obtain ⟨q, r⟩ := x
      obtain ⟨hs, hq⟩ := next_some hx
      have e0 := num_frame n p [] hp
      rw [List.append_nil, hs, num_frame l.length q r hq] at e0
      have hlen := congrArg List.length hs
      rw [List.length_append, frame_len, frame_len] at hlen
      have hr : r = [] := List.eq_nil_of_length_eq_zero (by omega)
      subst hr
      have hd := drop_frame n p []
      rw [List.append_nil, hs, drop_frame, List.append_nil, List.append_nil] at hd
      subst hd
      rw [List.append_nil] at hs
      unfold frameL at hs
      have hs2 := List.append_cancel_right hs
      have hs3 := List.append_cancel_left hs2
      exact hne (crc_be4 hn hll _ (be4_inj (crcL_lt _) (crcL_lt _) hs3))
  have hg : readGo g l.length (frameL n p) = ([], false) := by
    cases g with
    | zero => rw [frame_len] at h1; omega
    | succ g =>
      have hne2 : frameL n p ≠ [] := fun h => frame_ne n p [] (by rw [h]; rfl)
      rw [readGo, if_neg hne2, hno]
  rw [h3, hg, List.append_nil]
end Go.Proofs.YtbklnijmalnnoaaDoor.LP
