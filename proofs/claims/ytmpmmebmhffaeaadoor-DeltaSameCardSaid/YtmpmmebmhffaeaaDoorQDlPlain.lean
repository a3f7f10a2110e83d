/- Layer 14: a text told by another one, over lists of bytes (no program is read here). -/
import Derived.Test.YtmpmmebmhffaeaaDoorQHashPlain
import Derived.Test.YtmpmmebmhffaeaaDoorQHashSha
set_option linter.all false
set_option maxRecDepth 100000
set_option maxHeartbeats 25600000
namespace Go.Proofs.YtmpmmebmhffaeaaDoor
open Go
namespace DL
open HP HS

/-- What is told of a block: its weak sum, its fingerprint, its length. -/
abbrev Bk := Nat × List UInt8 × Int
/-- A step: from, count, text. -/
abbrev Stp := Int × Int × List UInt8
def tellB (s : List UInt8) : Bk := (weakL s, shaL s, (s.length : Int))
def cnt (n size : Nat) : Nat := (n + size - 1) / size
def blockAt (base : List UInt8) (size i : Nat) : List UInt8 := (base.drop (i * size)).take size
def signL (base : List UInt8) (size : Nat) : List Bk := (List.range (cnt base.length size)).map fun i => tellB (blockAt base size i)
theorem sign_len (base : List UInt8) (size : Nat) : (signL base size).length = cnt base.length size := by unfold signL; rw [List.length_map, List.length_range]
theorem sign_at (base : List UInt8) (size i : Nat) (h : i < cnt base.length size) : (signL base size)[i]? = some (tellB (blockAt base size i)) := by
  unfold signL
  rw [List.getElem?_map, List.getElem?_range h]
  rfl
theorem cnt_lt {n size i : Nat} (hs : 1 ≤ size) : i < cnt n size ↔ i * size < n := by
  unfold cnt
  constructor
  · intro h
    have h1 : (i + 1) * size ≤ n + size - 1 := by
      have := Nat.mul_le_mul_right size (show i + 1 ≤ (n + size - 1) / size by omega)
      exact Nat.le_trans this (Nat.div_mul_le_self _ _)
    rw [Nat.add_mul, Nat.one_mul] at h1
    omega
  · intro h
    have h1 : (i + 1) * size ≤ n + size - 1 := by
      rw [Nat.add_mul, Nat.one_mul]
      omega
    have := (Nat.le_div_iff_mul_le (by omega)).2 h1
    omega
theorem cnt_le {n size : Nat} (hs : 1 ≤ size) : cnt n size ≤ n := by
  rcases Nat.lt_or_ge n (cnt n size) with h | h
  · have h1 := (cnt_lt (n := n) (i := n) hs).1 h
    have := Nat.mul_le_mul_left n hs
    omega
  · exact h
/-- The number of the first of the list that is this one. -/
def findB : List Bk → Bk → Option Nat
  | [], _ => none
  | x :: r, b => if x = b then some 0 else (findB r b).map (· + 1)
theorem findB_at : ∀ {bs : List Bk} {b : Bk} {i : Nat}, findB bs b = some i → bs[i]? = some b
  | x :: r, b, i, h => by
    unfold findB at h
    split at h
    · rename_i e
      injection h with h
      rw [← h, e]
      rfl
    · cases hr : findB r b with
      | none => rw [hr] at h; cases h
      | some j =>
        rw [hr] at h
        injection h with h
        rw [← h]
        have := findB_at hr
        simpa using this
theorem findB_lt {bs : List Bk} {b : Bk} {i : Nat} (h : findB bs b = some i) : i < bs.length := (List.getElem?_eq_some_iff.1 (findB_at h)).1
theorem findB_mem : ∀ {bs : List Bk} {b : Bk}, b ∈ bs → ∃ i, findB bs b = some i
  | x :: r, b, h => by
    unfold findB
    by_cases e : x = b
    · exact ⟨0, if_pos e⟩
    · rw [if_neg e]
      rcases List.mem_cons.1 h with e2 | h2
      · exact absurd e2.symm e
      · obtain ⟨i, hi⟩ := findB_mem h2
        exact ⟨i + 1, by rw [hi]; rfl⟩
theorem findB_none {bs : List Bk} {b : Bk} (h : findB bs b = none) : b ∉ bs := fun hm => by
  obtain ⟨i, hi⟩ := findB_mem hm
  rw [h] at hi
  cases hi
theorem findB_snoc (bs : List Bk) (x b : Bk) : findB (bs ++ [x]) b = match findB bs b with | some i => some i | none => if x = b then some bs.length else none := by
  induction bs with
  | nil => rfl
  | cons y r ih =>
    rw [List.cons_append]
    unfold findB
    by_cases e : y = b
    · rw [if_pos e, if_pos e]
    · rw [if_neg e, if_neg e, ih]
      cases findB r b with
      | some i => rfl
      | none =>
        simp only [Option.map_none]
        by_cases e2 : x = b
        · rw [if_pos e2, if_pos e2, List.length_cons]; rfl
        · rw [if_neg e2, if_neg e2]; rfl
/-- The first of the list that is this one, by what stands ahead. -/
theorem findB_first : ∀ {bs : List Bk} {b : Bk} {i : Nat}, bs[i]? = some b → (∀ j, j < i → bs[j]? ≠ some b) → findB bs b = some i
  | x :: r, b, 0, h, _ => by
    have : x = b := by simpa using h
    unfold findB
    rw [if_pos this]
  | x :: r, b, i + 1, h, hj => by
    have h0 := hj 0 (Nat.succ_pos _)
    have : x ≠ b := fun e => h0 (by rw [e]; rfl)
    unfold findB
    rw [if_neg this, findB_first (bs := r) (i := i) (by simpa using h) (fun j hji => by have := hj (j + 1) (by omega); simpa using this)]
    rfl
theorem findB_not : ∀ {bs : List Bk} {b : Bk}, (∀ j : Nat, bs[j]? ≠ some b) → findB bs b = none := fun {bs b} h => by
  cases hf : findB bs b with
  | none => rfl
  | some i => exact absurd (findB_at hf) (h i)
/-- A copy of this block more. -/
def addC (ops : List Stp) (i : Int) : List Stp :=
  match ops.getLast? with
  | some x => if 0 < x.2.1 ∧ x.1 + x.2.1 = i then ops.dropLast ++ [(x.1, x.2.1 + 1, x.2.2)] else ops ++ [(i, 1, [])]
  | none => ops ++ [(i, 1, [])]
/-- A byte more. -/
def addT (ops : List Stp) (c : UInt8) : List Stp :=
  match ops.getLast? with
  | some x => if x.2.1 = 0 then ops.dropLast ++ [(x.1, x.2.1, x.2.2 ++ [c])] else ops ++ [(0, 0, [c])]
  | none => ops ++ [(0, 0, [c])]
def goL (bs : List Bk) (size : Nat) : Nat → List UInt8 → List Stp → List Stp
  | 0, _, ops => ops
  | n + 1, d, ops =>
    match d with
    | [] => ops
    | c :: r =>
      match findB bs (tellB ((c :: r).take size)) with
      | some i => goL bs size n ((c :: r).drop size) (addC ops i)
      | none => goL bs size n r (addT ops c)
theorem goL_fuel (bs : List Bk) {size : Nat} (hs : 1 ≤ size) : ∀ (n m : Nat) (d : List UInt8) (ops : List Stp), d.length ≤ n → d.length ≤ m → goL bs size n d ops = goL bs size m d ops
  | 0, m, d, ops, h, _ => by
    have : d = [] := List.eq_nil_of_length_eq_zero (by omega)
    subst this
    cases m <;> rfl
  | n + 1, 0, d, ops, _, h => by
    have : d = [] := List.eq_nil_of_length_eq_zero (by omega)
    subst this
    rfl
  | n + 1, m + 1, d, ops, h, h2 => by
    cases d with
    | nil => rfl
    | cons c r =>
      rw [List.length_cons] at h h2
      unfold goL
      simp only
      cases findB bs (tellB ((c :: r).take size)) with
      | some i =>
        simp only
        have hl : ((c :: r).drop size).length ≤ r.length := by rw [List.length_drop, List.length_cons]; omega
        exact goL_fuel bs hs n m _ _ (by omega) (by omega)
      | none =>
        simp only
        exact goL_fuel bs hs n m _ _ (by omega) (by omega)
/-- From this rest on. -/
def goF (bs : List Bk) (size : Nat) (d : List UInt8) (ops : List Stp) : List Stp := goL bs size d.length d ops
theorem goF_nil (bs : List Bk) (size : Nat) (ops : List Stp) : goF bs size [] ops = ops := rfl
theorem goF_some {bs : List Bk} {size : Nat} (hs : 1 ≤ size) {d : List UInt8} {ops : List Stp} {i : Nat} (hd : d ≠ []) (h : findB bs (tellB (d.take size)) = some i) : goF bs size d ops = goF bs size (d.drop size) (addC ops i) := by
  cases d with
  | nil => exact absurd rfl hd
  | cons c r =>
    unfold goF
    rw [List.length_cons, goL]
    simp only [h]
    have hl : ((c :: r).drop size).length ≤ r.length := by rw [List.length_drop, List.length_cons]; omega
    exact goL_fuel bs hs _ _ _ _ hl (Nat.le_refl _)
theorem goF_none {bs : List Bk} {size : Nat} {c : UInt8} {r : List UInt8} {ops : List Stp} (h : findB bs (tellB ((c :: r).take size)) = none) : goF bs size (c :: r) ops = goF bs size r (addT ops c) := by
  unfold goF
  rw [List.length_cons, goL]
  simp only [h]
def makeL (data : List UInt8) (bs : List Bk) (size : Nat) : List Stp := goF bs size data []
/-- What isn't told yet, as a text. -/
def pend (ops : List Stp) (u : List UInt8) : List Stp := if u = [] then ops else ops ++ [(0, 0, u)]
/-- The last step isn't a text. -/
def NoText (ops : List Stp) : Prop := ∀ x, ops.getLast? = some x → 0 < x.2.1
theorem pend_nil (ops : List Stp) : pend ops [] = ops := rfl
theorem pend_text {ops : List Stp} (h : NoText ops) (u : List UInt8) (c : UInt8) : addT (pend ops u) c = pend ops (u ++ [c]) := by
  unfold pend
  rw [if_neg (show u ++ [c] ≠ [] by simp)]
  by_cases e : u = []
  · rw [if_pos e, e, List.nil_append]
    unfold addT
    cases hl : ops.getLast? with
    | none => rfl
    | some x => simp only; rw [if_neg (by have := h x hl; omega)]
  · rw [if_neg e]
    unfold addT
    rw [List.getLast?_concat]
    simp only
    rw [if_pos trivial, List.dropLast_concat]
theorem noText_addC (ops : List Stp) (i : Int) : NoText (addC ops i) := fun x hx => by
  unfold addC at hx
  cases hl : ops.getLast? with
  | none =>
    rw [hl] at hx
    simp only [List.getLast?_concat] at hx
    injection hx with hx
    rw [← hx]; exact Int.one_pos
  | some y =>
    rw [hl] at hx
    simp only at hx
    split at hx
    · rename_i h
      rw [List.getLast?_concat] at hx
      injection hx with hx
      rw [← hx]
      simp only
      omega
    · rw [List.getLast?_concat] at hx
      injection hx with hx
      rw [← hx]; exact Int.one_pos
/-- All steps keep within so many blocks. -/
def Within (nb : Nat) (ops : List Stp) : Prop := ∀ x ∈ ops, 0 ≤ x.1 ∧ 0 ≤ x.2.1 ∧ x.1 + x.2.1 ≤ nb
theorem within_addC {nb : Nat} {ops : List Stp} (h : Within nb ops) {i : Nat} (hi : i < nb) : Within nb (addC ops i) := fun x hx => by
  unfold addC at hx
  have key : ∀ y ∈ ops ++ [((i : Int), (1 : Int), ([] : List UInt8))], 0 ≤ y.1 ∧ 0 ≤ y.2.1 ∧ y.1 + y.2.1 ≤ nb := fun y hy => by
    rcases List.mem_append.1 hy with hy | hy
    · exact h y hy
    · rw [List.mem_singleton] at hy
      subst hy
      refine ⟨?_, ?_, ?_⟩ <;> simp only <;> omega
  cases hl : ops.getLast? with
  | none => rw [hl] at hx; exact key x hx
  | some y =>
    rw [hl] at hx
    simp only at hx
    split at hx
    · rename_i hc
      have hy := h y (List.mem_of_getLast? hl)
      rcases List.mem_append.1 hx with hx | hx
      · exact h x (List.dropLast_subset _ hx)
      · rw [List.mem_singleton] at hx
        subst hx
        simp only
        omega
    · exact key x hx
theorem within_pend {nb : Nat} {ops : List Stp} (h : Within nb ops) (u : List UInt8) : Within nb (pend ops u) := fun x hx => by
  unfold pend at hx
  split at hx
  · exact h x hx
  · rcases List.mem_append.1 hx with hx | hx
    · exact h x hx
    · rw [List.mem_singleton] at hx
      subst hx
      refine ⟨?_, ?_, ?_⟩ <;> simp only <;> omega
theorem within_addT {nb : Nat} {ops : List Stp} (h : Within nb ops) (c : UInt8) : Within nb (addT ops c) := fun x hx => by
  unfold addT at hx
  have key : ∀ y ∈ ops ++ [((0 : Int), (0 : Int), [c])], 0 ≤ y.1 ∧ 0 ≤ y.2.1 ∧ y.1 + y.2.1 ≤ nb := fun y hy => by
    rcases List.mem_append.1 hy with hy | hy
    · exact h y hy
    · rw [List.mem_singleton] at hy
      subst hy
      refine ⟨?_, ?_, ?_⟩ <;> simp only <;> omega
  cases hl : ops.getLast? with
  | none => rw [hl] at hx; exact key x hx
  | some y =>
    rw [hl] at hx
    simp only at hx
    split at hx
    · have hy := h y (List.mem_of_getLast? hl)
      rcases List.mem_append.1 hx with hx | hx
      · exact h x (List.dropLast_subset _ hx)
      · rw [List.mem_singleton] at hx
        subst hx
        exact hy
    · exact key x hx
/-- How many bytes are new. -/
def newL : List Stp → Nat
  | [] => 0
  | x :: r => x.2.2.length + newL r
theorem newL_app (a b : List Stp) : newL (a ++ b) = newL a + newL b := by
  induction a with
  | nil => simp [newL]
  | cons x r ih => rw [List.cons_append, newL, newL, ih]; omega
theorem newL_last {ops : List Stp} {x : Stp} (h : ops.getLast? = some x) : newL ops = newL ops.dropLast + x.2.2.length := by
  obtain ⟨q, rfl⟩ := List.getLast?_eq_some_iff.1 h
  rw [List.dropLast_concat, newL_app]
  simp [newL]
theorem newL_addC (ops : List Stp) (i : Int) : newL (addC ops i) = newL ops := by
  unfold addC
  cases hl : ops.getLast? with
  | none => simp only; rw [newL_app]; simp [newL]
  | some y =>
    simp only
    split
    · rw [newL_app, newL_last hl]; simp [newL]
    · rw [newL_app]; simp [newL]
theorem newL_addT (ops : List Stp) (c : UInt8) : newL (addT ops c) = newL ops + 1 := by
  unfold addT
  cases hl : ops.getLast? with
  | none => simp only; rw [newL_app]; simp [newL]
  | some y =>
    simp only
    split
    · rw [newL_app, newL_last hl]; simp [newL]; omega
    · rw [newL_app]; simp [newL]
theorem goL_new (bs : List Bk) {size : Nat} (hs : 1 ≤ size) : ∀ (n : Nat) (d : List UInt8) (ops : List Stp), d.length ≤ n → newL (goL bs size n d ops) ≤ newL ops + d.length
  | 0, d, ops, _ => by unfold goL; omega
  | n + 1, d, ops, h => by
    cases d with
    | nil => unfold goL; simp
    | cons c r =>
      rw [List.length_cons] at h
      unfold goL
      simp only
      cases findB bs (tellB ((c :: r).take size)) with
      | some i =>
        simp only
        have hl : ((c :: r).drop size).length ≤ r.length := by rw [List.length_drop, List.length_cons]; omega
        have := goL_new bs hs n ((c :: r).drop size) (addC ops i) (by omega)
        rw [newL_addC] at this
        rw [List.length_cons]
        omega
      | none =>
        simp only
        have := goL_new bs hs n r (addT ops c) (by omega)
        rw [newL_addT] at this
        rw [List.length_cons]
        omega
theorem goF_new (bs : List Bk) {size : Nat} (hs : 1 ≤ size) (d : List UInt8) (ops : List Stp) : newL (goF bs size d ops) ≤ newL ops + d.length := goL_new bs hs _ d ops (Nat.le_refl _)
theorem block_found {base : List UInt8} {size : Nat} (hs : 1 ≤ size) {k : Nat} (hk : k * size < base.length) : ∃ i, findB (signL base size) (tellB ((base.drop (k * size)).take size)) = some i :=
  findB_mem (List.mem_of_getElem? (sign_at base size k ((cnt_lt hs).2 hk)))
/-- Of a text itself nothing is new. -/
theorem same_new {base : List UInt8} {size : Nat} (hs : 1 ≤ size) : ∀ (m k : Nat) (ops : List Stp), base.length - k * size ≤ m → newL (goF (signL base size) size (base.drop (k * size)) ops) = newL ops
  | m, k, ops, hm => by
    by_cases hk : k * size < base.length
    · obtain ⟨i, hi⟩ := block_found hs hk
      rw [goF_some hs (fun e => by have := congrArg List.length e; rw [List.length_drop] at this; simp at this; omega) hi, List.drop_drop]
      cases m with
      | zero => omega
      | succ m =>
        have e : k * size + size = (k + 1) * size := by rw [Nat.add_mul, Nat.one_mul]
        rw [e, same_new hs m (k + 1) _ (by rw [← e]; omega), newL_addC]
    · rw [List.drop_eq_nil_of_le (by omega), goF_nil]
theorem make_same {base : List UInt8} {size : Nat} (hs : 1 ≤ size) : newL (makeL base (signL base size) size) = 0 := by
  have := same_new (base := base) hs base.length 0 [] (by omega)
  rw [Nat.zero_mul, List.drop_zero] at this
  exact this
/-- Of what stands behind whole blocks no more than that is new. -/
theorem more_new {base more : List UInt8} {size : Nat} (hs : 1 ≤ size) (hw : base.length % size = 0) : ∀ (m k : Nat) (ops : List Stp), k * size ≤ base.length → base.length - k * size ≤ m → newL (goF (signL base size) size (base.drop (k * size) ++ more) ops) ≤ newL ops + more.length
  | m, k, ops, hk0, hm => by
    by_cases hk : k * size < base.length
    · obtain ⟨i, hi⟩ := block_found hs hk
      have e : k * size + size = (k + 1) * size := by rw [Nat.add_mul, Nat.one_mul]
      have hw2 : size ≤ base.length - k * size := by
        have h1 : size ∣ base.length := Nat.dvd_of_mod_eq_zero hw
        have h2 : size ∣ base.length - k * size := Nat.dvd_sub h1 (Nat.dvd_mul_left _ _)
        exact Nat.le_of_dvd (by omega) h2
      have ht : (base.drop (k * size) ++ more).take size = (base.drop (k * size)).take size := by
        rw [List.take_append_of_le_length (by rw [List.length_drop]; exact hw2)]
      rw [goF_some hs (fun e => by have := congrArg List.length e; rw [List.length_append, List.length_drop] at this; simp at this; omega) (by rw [ht]; exact hi)]
      rw [List.drop_append_of_le_length (by rw [List.length_drop]; exact hw2), List.drop_drop, e]
      cases m with
      | zero => omega
      | succ m =>
        have := more_new (more := more) hs hw m (k + 1) (addC ops i) (by omega) (by omega)
        rw [newL_addC] at this
        exact this
    · rw [List.drop_eq_nil_of_le (by omega), List.nil_append]
      exact goF_new _ hs _ _
theorem make_more {base more : List UInt8} {size : Nat} (hs : 1 ≤ size) (hw : base.length % size = 0) : newL (makeL (base ++ more) (signL base size) size) ≤ more.length := by
  have := more_new (base := base) (more := more) hs hw base.length 0 [] (by omega) (by omega)
  rw [Nat.zero_mul, List.drop_zero] at this
  unfold makeL
  simpa [newL] using this
theorem addC_le (O : List Stp) (i : Int) : (addC O i).length ≤ O.length + 1 := by
  unfold addC
  cases h : O.getLast? with
  | none => simp
  | some x =>
    simp only
    split
    · simp <;> omega
    · simp
theorem addT_le (O : List Stp) (c : UInt8) : (addT O c).length ≤ O.length + 1 := by
  unfold addT
  cases h : O.getLast? with
  | none => simp
  | some x =>
    simp only
    split
    · simp <;> omega
    · simp
theorem goL_len (bs : List Bk) {size : Nat} (hs : 1 ≤ size) : ∀ (n : Nat) (d : List UInt8) (ops : List Stp), d.length ≤ n → (goL bs size n d ops).length ≤ ops.length + d.length
  | 0, d, ops, _ => by unfold goL; omega
  | n + 1, d, ops, h => by
    cases d with
    | nil => unfold goL; simp
    | cons c r =>
      rw [List.length_cons] at h
      unfold goL
      simp only
      cases findB bs (tellB ((c :: r).take size)) with
      | some i =>
        simp only
        have hl : ((c :: r).drop size).length ≤ r.length := by rw [List.length_drop, List.length_cons]; omega
        have := goL_len bs hs n ((c :: r).drop size) (addC ops i) (by omega)
        have := addC_le ops i
        rw [List.length_cons]
        omega
      | none =>
        simp only
        have := goL_len bs hs n r (addT ops c) (by omega)
        have := addT_le ops c
        rw [List.length_cons]
        omega
theorem makeL_len (d : List UInt8) (bs : List Bk) {size : Nat} (hs : 1 ≤ size) : (makeL d bs size).length ≤ d.length := by
  have := goL_len bs hs d.length d [] (Nat.le_refl _)
  rw [List.length_nil, Nat.zero_add] at this
  exact this
/- the texts that steps make -/
/-- Steps that are right, of so many blocks. -/
def okC (nb : Nat) (x : Stp) : Bool := decide (0 < x.2.1) && decide (x.2.2 = []) && decide (0 ≤ x.1) && decide (x.1 + x.2.1 ≤ nb)
def okT (x : Stp) : Bool := decide (x.2.1 = 0) && decide (x.1 = 0) && decide (x.2.2 ≠ [])
def textL (base : List UInt8) (size : Nat) (x : Stp) : Option (List UInt8) :=
  if okT x then some x.2.2 else if okC (cnt base.length size) x then some ((base.drop (x.1.toNat * size)).take (x.2.1.toNat * size)) else none
/-- The text so far and the rest of the steps: the text or the number of an error. -/
def applyL (base : List UInt8) (size : Nat) : List UInt8 → List Stp → List UInt8 × Int
  | out, [] => (out, 0)
  | out, x :: r =>
    match textL base size x with
    | none => ([], 140)
    | some t => if 65536 < out.length + t.length then ([], 32) else applyL base size (out ++ t) r
theorem weak_snoc0 (x : UInt8) (r : List UInt8) : (weakL (r ++ [0]) : Int) - 65536 * (sumA r % 65536 : Nat) = weakL r ∨ (weakL (r ++ [0]) : Int) - 65536 * (sumA r % 65536 : Nat) + 4294967296 = weakL r := by
  have h1 := sumA_snoc r 0
  have h2 := sumB_snoc r 0
  have e : (0 : UInt8).toNat = 0 := rfl
  unfold weakL
  rw [h1, h2, e]
  omega
end DL
end Go.Proofs.YtmpmmebmhffaeaaDoor
