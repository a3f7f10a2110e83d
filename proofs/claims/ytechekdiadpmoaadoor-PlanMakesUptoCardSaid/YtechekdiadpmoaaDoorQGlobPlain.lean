/- Layer 2's reading of patterns and its matching, over lists of bytes and runes; and the plain facts about them (no program is read here). -/
import Derived.Test.YtechekdiadpmoaaDoorQBase
import Derived.Lib.ValidLaws
import Derived.Lib.TrimUEq
set_option linter.all false
set_option maxRecDepth 100000
set_option maxHeartbeats 25600000
namespace Go.Proofs.YtechekdiadpmoaaDoor.GP
open Go

abbrev Sp := Nat × Nat
inductive El where
  | star
  | set (neg : Bool) (sp : List Sp)
inductive Pt where
  | stars
  | one (els : List El)

/- one rune -/
def decL (l : List UInt8) : Nat × Nat := if l = [] then (65533, 0) else Lib.decodeL l
def runeL (l : List UInt8) : Nat × Nat :=
  if l.head? = some 92 then ((decL l.tail).1, if 0 < (decL l.tail).2 then (decL l.tail).2 + 1 else 0) else decL l
theorem decodeL_le (l : List UInt8) (h : l ≠ []) : (Lib.decodeL l).2 ≤ l.length := by
  have hl : 0 < l.length := List.length_pos_iff.2 h
  rw [Lib.decodeL_N]
  unfold Lib.decodeN
  repeat' split
  all_goals first | omega | (simp only []; omega)
theorem decL_le (l : List UInt8) : (decL l).2 ≤ l.length := by
  unfold decL
  split
  · simp
  · rename_i h; exact decodeL_le l h
theorem decL_pos {l : List UInt8} (h : l ≠ []) : 1 ≤ (decL l).2 := by
  unfold decL
  rw [if_neg h]
  exact Lib.decodeL_width l
theorem decL_rune (l : List UInt8) : (decL l).1 ≤ 1114111 := by
  unfold decL
  split
  · simp
  · exact Lib.decodeL_rune l
theorem runeL_le (l : List UInt8) : (runeL l).2 ≤ l.length := by
  unfold runeL
  split
  · rename_i h
    have hl : l.length = l.tail.length + 1 := by cases l with
      | nil => simp at h
      | cons x r => simp
    have := decL_le l.tail
    show (if 0 < (decL l.tail).2 then (decL l.tail).2 + 1 else 0) ≤ l.length
    split <;> omega
  · exact decL_le l
theorem runeL_rune (l : List UInt8) : (runeL l).1 ≤ 1114111 := by
  unfold runeL
  split
  · exact decL_rune _
  · exact decL_rune _

/- a span; brackets; an element -/
def spanL (l : List UInt8) : Sp × Nat :=
  if (l.drop (runeL l).2).head? = some 45 then
    if (l.drop (runeL l).2).tail = [] ∨ (l.drop (runeL l).2).tail.head? = some 93 then (((runeL l).1, (runeL l).1), (runeL l).2)
    else if (runeL (l.drop (runeL l).2).tail).2 = 0 then ((0, 0), 0)
    else (((runeL l).1, (runeL (l.drop (runeL l).2).tail).1), (runeL l).2 + 1 + (runeL (l.drop (runeL l).2).tail).2)
  else (((runeL l).1, (runeL l).1), (runeL l).2)
theorem spanL_le (l : List UInt8) : (spanL l).2 ≤ l.length := by
  have h1 := runeL_le l
  have h2 := runeL_le (l.drop (runeL l).2).tail
  unfold spanL
  split
  · rename_i h
    split
    · exact h1
    · split
      · simp
      · have : (l.drop (runeL l).2).tail.length + 1 + (runeL l).2 = l.length := by
          have e : (l.drop (runeL l).2).length = (l.drop (runeL l).2).tail.length + 1 := by
            cases hd : l.drop (runeL l).2 with
            | nil => rw [hd] at h; simp at h
            | cons x r => simp
          rw [List.length_drop] at e
          omega
        show (runeL l).2 + 1 + (runeL (l.drop (runeL l).2).tail).2 ≤ l.length
        omega
  · exact h1
theorem spanL_rune (l : List UInt8) : (spanL l).1.1 ≤ 1114111 ∧ (spanL l).1.2 ≤ 1114111 := by
  have h1 := runeL_rune l
  have h2 := runeL_rune (l.drop (runeL l).2).tail
  unfold spanL
  repeat' split
  all_goals first | exact ⟨h1, h1⟩ | exact ⟨h1, h2⟩ | exact ⟨by simp, by simp⟩
def brGo : Nat → List UInt8 → List Sp → Option (List Sp × List UInt8)
  | 0, _, _ => none
  | n + 1, l, acc =>
    if l = [] then none
    else if l.head? = some 93 then (if acc = [] then none else some (acc, l))
    else if (spanL l).2 = 0 then none
    else brGo n (l.drop (spanL l).2) (acc ++ [(spanL l).1])
theorem brGo_fuel : ∀ (n m : Nat) (l : List UInt8) (acc : List Sp), l.length < n → l.length < m → brGo n l acc = brGo m l acc
  | 0, _, _, _, h, _ => by omega
  | _ + 1, 0, _, _, _, h => by omega
  | n + 1, m + 1, l, acc, hn, hm => by
    unfold brGo
    by_cases h0 : l = []
    · rw [if_pos h0, if_pos h0]
    · rw [if_neg h0, if_neg h0]
      by_cases h1 : l.head? = some 93
      · rw [if_pos h1, if_pos h1]
      · rw [if_neg h1, if_neg h1]
        by_cases h2 : (spanL l).2 = 0
        · rw [if_pos h2, if_pos h2]
        · rw [if_neg h2, if_neg h2]
          have hl : 0 < l.length := List.length_pos_iff.2 h0
          exact brGo_fuel n m _ _ (by rw [List.length_drop]; omega) (by rw [List.length_drop]; omega)
def brR (l : List UInt8) (acc : List Sp) : Option (List Sp × List UInt8) := brGo (l.length + 1) l acc
theorem brR_nil (acc : List Sp) : brR [] acc = none := by simp [brR, brGo]
theorem brR_end {l : List UInt8} (h1 : l.head? = some 93) (acc : List Sp) : brR l acc = if acc = [] then none else some (acc, l) := by
  unfold brR brGo
  have h0 : l ≠ [] := by rintro rfl; simp at h1
  rw [if_neg h0, if_pos h1]
theorem brR_step {l : List UInt8} (h0 : l ≠ []) (h1 : l.head? ≠ some 93) (acc : List Sp) :
    brR l acc = if (spanL l).2 = 0 then none else brR (l.drop (spanL l).2) (acc ++ [(spanL l).1]) := by
  have hl : 0 < l.length := List.length_pos_iff.2 h0
  unfold brR
  rw [brGo, if_neg h0, if_neg h1]
  by_cases h2 : (spanL l).2 = 0
  · rw [if_pos h2, if_pos h2]
  · rw [if_neg h2, if_neg h2]
    exact brGo_fuel _ _ _ _ (by rw [List.length_drop]; omega) (by omega)
/-- Brackets: the text begins with '['. -/
def brIn (l : List UInt8) : List UInt8 := if l.tail.head? = some 33 then l.tail.tail else l.tail
def brL (l : List UInt8) : Option (El × Nat) := match brR (brIn l) [] with
  | none => none
  | some (sp, rest) => some (.set (l.tail.head? == some 33) sp, l.length - rest.length + 1)
theorem brGo_rest : ∀ (n : Nat) (l : List UInt8) (acc : List Sp) (sp : List Sp) (r : List UInt8), brGo n l acc = some (sp, r) → r.length ≤ l.length ∧ 1 ≤ r.length
  | 0, _, _, _, _, h => by simp [brGo] at h
  | n + 1, l, acc, sp, r, h => by
    unfold brGo at h
    split at h
    · simp at h
    · rename_i h0
      split at h
      · split at h
        · simp at h
        · simp only [Option.some.injEq, Prod.mk.injEq] at h
          obtain ⟨_, rfl⟩ := h
          have := List.length_pos_iff.2 h0
          omega
      · split at h
        · simp at h
        · have := brGo_rest n _ _ sp r h
          rw [List.length_drop] at this
          omega
theorem brIn_le (l : List UInt8) : (brIn l).length ≤ l.length - 1 := by
  unfold brIn
  split
  · simp only [List.length_tail]; omega
  · simp only [List.length_tail]; omega
theorem brL_le {l : List UInt8} (h0 : l ≠ []) {e : El} {k : Nat} (h : brL l = some (e, k)) : 1 ≤ k ∧ k ≤ l.length := by
  have hl : 0 < l.length := List.length_pos_iff.2 h0
  unfold brL at h
  split at h
  · simp at h
  · rename_i sp r hr
    simp only [Option.some.injEq, Prod.mk.injEq] at h
    have h1 := brGo_rest _ _ _ _ _ hr
    have h2 := brIn_le l
    omega
def elL (l : List UInt8) : Option (El × Nat) :=
  if l.head? = some 42 then some (.star, 1)
  else if l.head? = some 63 then some (.set true [], 1)
  else if l.head? = some 91 then brL l
  else if (runeL l).2 = 0 then none
  else some (.set false [((runeL l).1, (runeL l).1)], (runeL l).2)
theorem elL_le {l : List UInt8} (h0 : l ≠ []) {e : El} {k : Nat} (h : elL l = some (e, k)) : 1 ≤ k ∧ k ≤ l.length := by
  have hl : 0 < l.length := List.length_pos_iff.2 h0
  have hr := runeL_le l
  unfold elL at h
  split at h
  · simp at h; omega
  · split at h
    · simp at h; omega
    · split at h
      · exact brL_le h0 h
      · split at h
        · simp at h
        · simp only [Option.some.injEq, Prod.mk.injEq] at h; omega

/- a part; a pattern -/
def ptGo : Nat → List UInt8 → Nat → List El → Except Nat (List El)
  | 0, _, at', _ => .error at'
  | n + 1, l, at', acc =>
    if l = [] then .ok acc
    else match elL l with
      | none => .error at'
      | some (e, k) => ptGo n (l.drop k) (at' + k) (acc ++ [e])
theorem ptGo_fuel : ∀ (n m : Nat) (l : List UInt8) (a : Nat) (acc : List El), l.length < n → l.length < m → ptGo n l a acc = ptGo m l a acc
  | 0, _, _, _, _, h, _ => by omega
  | _ + 1, 0, _, _, _, _, h => by omega
  | n + 1, m + 1, l, a, acc, hn, hm => by
    unfold ptGo
    by_cases h0 : l = []
    · rw [if_pos h0, if_pos h0]
    · rw [if_neg h0, if_neg h0]
      cases he : elL l with
      | none => rfl
      | some x =>
        obtain ⟨e, k⟩ := x
        have := elL_le h0 he
        exact ptGo_fuel n m _ _ _ (by rw [List.length_drop]; omega) (by rw [List.length_drop]; omega)
def ptR (l : List UInt8) (a : Nat) (acc : List El) : Except Nat (List El) := ptGo (l.length + 1) l a acc
theorem ptR_nil (a : Nat) (acc : List El) : ptR [] a acc = .ok acc := by simp [ptR, ptGo]
theorem ptR_step {l : List UInt8} (h0 : l ≠ []) (a : Nat) (acc : List El) : ptR l a acc = match elL l with
    | none => .error a
    | some (e, k) => ptR (l.drop k) (a + k) (acc ++ [e]) := by
  unfold ptR
  rw [ptGo, if_neg h0]
  cases he : elL l with
  | none => rfl
  | some x =>
    obtain ⟨e, k⟩ := x
    have := elL_le h0 he
    exact ptGo_fuel _ _ _ _ _ (by rw [List.length_drop]; omega) (by omega)
def ptL (l : List UInt8) : Except Nat Pt :=
  if l = [] then .error 0
  else if l = [42, 42] then .ok .stars
  else match ptR l 0 [] with
    | .error k => .error k
    | .ok els => .ok (.one els)
def psR : List (List UInt8) → Nat → List Pt → Except Nat (List Pt)
  | [], _, acc => .ok acc
  | t :: ts, a, acc => match ptL t with
    | .error k => .error (a + k)
    | .ok p => psR ts (a + (t.length + 1)) (acc ++ [p])
def spGo : Nat → List UInt8 → Nat → Option Nat
  | 0, _, _ => none
  | n + 1, l, a =>
    if l = [] then none
    else if (Lib.decodeL l).1 = 65533 ∧ Lib.hasPrefix l [239, 191, 189] = false then some a
    else spGo n (l.drop (Lib.decodeL l).2) (a + (Lib.decodeL l).2)
theorem spGo_fuel : ∀ (n m : Nat) (l : List UInt8) (a : Nat), l.length < n → l.length < m → spGo n l a = spGo m l a
  | 0, _, _, _, h, _ => by omega
  | _ + 1, 0, _, _, _, h => by omega
  | n + 1, m + 1, l, a, hn, hm => by
    unfold spGo
    by_cases h0 : l = []
    · rw [if_pos h0, if_pos h0]
    · rw [if_neg h0, if_neg h0]
      have := Lib.decodeL_width l
      have hl : 0 < l.length := List.length_pos_iff.2 h0
      split
      · rfl
      · exact spGo_fuel n m _ _ (by rw [List.length_drop]; omega) (by rw [List.length_drop]; omega)
def spR (l : List UInt8) (a : Nat) : Option Nat := spGo (l.length + 1) l a
theorem spR_nil (a : Nat) : spR [] a = none := by simp [spR, spGo]
theorem spR_step {l : List UInt8} (h0 : l ≠ []) (a : Nat) : spR l a =
    if (Lib.decodeL l).1 = 65533 ∧ Lib.hasPrefix l [239, 191, 189] = false then some a else spR (l.drop (Lib.decodeL l).2) (a + (Lib.decodeL l).2) := by
  have := Lib.decodeL_width l
  have hl : 0 < l.length := List.length_pos_iff.2 h0
  unfold spR
  rw [spGo, if_neg h0]
  split
  · rfl
  · exact spGo_fuel _ _ _ _ (by rw [List.length_drop]; omega) (by omega)
def patL (l : List UInt8) : Except Nat (List Pt) :=
  if l = [] ∨ 400 < l.length then .error l.length
  else match spR l 0 with
    | some k => .error k
    | none => match psR (NP.cutOn l) 0 [] with
      | .error k => .error (min k (l.length - 1))
      | .ok ps => .ok ps

/- matching -/
def takesL : El → Nat → Bool
  | .star, _ => false
  | .set neg sp, r => (sp.any fun s => decide (s.1 ≤ r) && decide (r ≤ s.2)) != neg
def anyTail {α : Type} (f : List α → Bool) : List α → Bool
  | [] => f []
  | x :: xs => f (x :: xs) || anyTail f xs
def fit : List El → List Nat → Bool
  | [] => fun rs => rs.isEmpty
  | .star :: es => anyTail (fit es)
  | .set neg sp :: es => fun rs => match rs with
    | [] => false
    | r :: rs' => takesL (.set neg sp) r && fit es rs'
def ruGo : Nat → List UInt8 → List Nat
  | 0, _ => []
  | n + 1, l => if l = [] then [] else (Lib.decodeL l).1 :: ruGo n (l.drop (Lib.decodeL l).2)
theorem ruGo_fuel : ∀ (n m : Nat) (l : List UInt8), l.length ≤ n → l.length ≤ m → ruGo n l = ruGo m l
  | 0, m, l, h, _ => by
    have : l = [] := List.eq_nil_of_length_eq_zero (by omega)
    subst this
    cases m <;> simp [ruGo]
  | n + 1, 0, l, _, h => by
    have : l = [] := List.eq_nil_of_length_eq_zero (by omega)
    subst this
    simp [ruGo]
  | n + 1, m + 1, l, hn, hm => by
    unfold ruGo
    by_cases h0 : l = []
    · rw [if_pos h0, if_pos h0]
    · rw [if_neg h0, if_neg h0]
      have := Lib.decodeL_width l
      have hl : 0 < l.length := List.length_pos_iff.2 h0
      rw [ruGo_fuel n m _ (by rw [List.length_drop]; omega) (by rw [List.length_drop]; omega)]
def runes (l : List UInt8) : List Nat := ruGo l.length l
theorem runes_nil : runes [] = [] := rfl
theorem runes_step {l : List UInt8} (h0 : l ≠ []) : runes l = (Lib.decodeL l).1 :: runes (l.drop (Lib.decodeL l).2) := by
  have := Lib.decodeL_width l
  have hl : 0 < l.length := List.length_pos_iff.2 h0
  unfold runes
  obtain ⟨n, hn⟩ : ∃ n, l.length = n + 1 := ⟨l.length - 1, by omega⟩
  rw [hn, ruGo, if_neg h0, ruGo_fuel n _ _ (by rw [List.length_drop]; omega) (Nat.le_refl _)]
def fitsL (els : List El) (name : List UInt8) : Bool := fit els (runes name)
def mat : List Pt → List (List UInt8) → Bool
  | [] => fun ns => ns.isEmpty
  | .stars :: ps => anyTail (mat ps)
  | .one els :: ps => fun ns => match ns with
    | [] => false
    | n :: ns' => fitsL els n && mat ps ns'
def lastOnly {α : Type} (l : List α) : List α := l.drop (l.length - 1)
def matchL (ps : List Pt) (ns : List (List UInt8)) : Bool := mat ps (if ps.length = 1 then lastOnly ns else ns)
def namesL (l : List UInt8) : List (List UInt8) := if NP.pathL l = true then NP.cutOn l else []
/-- What Match answers. -/
def matL (p q : List UInt8) : Bool := match patL p with
  | .error _ => false
  | .ok ps => decide (namesL q ≠ []) && matchL ps (namesL q)
end Go.Proofs.YtechekdiadpmoaaDoor.GP
