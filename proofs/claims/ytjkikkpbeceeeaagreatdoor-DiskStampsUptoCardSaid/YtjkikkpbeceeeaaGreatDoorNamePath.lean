/- Layer 1: a text cut at its slashes, put together again, its last part and what stands ahead of it: over lists of bytes. -/
import Derived.Test.YtjkikkpbeceeeaaGreatDoorNamePlain
import Derived.Lib.Join
import Derived.Lib.IndexMore
import Derived.Lib.IndexBytes
import Derived.Lib.LastIndexByte
namespace Go.Proofs.YtjkikkpbeceeeaaGreatDoor.NP
open Go

def cutOn : List UInt8 → List (List UInt8)
  | [] => [[]]
  | x :: r => if x = 47 then [] :: cutOn r else match cutOn r with
    | [] => [[x]]
    | h :: t => (x :: h) :: t
theorem cutOn_ne (l : List UInt8) : cutOn l ≠ [] := by
  cases l with
  | nil => simp [cutOn]
  | cons x r =>
    unfold cutOn
    split
    · simp
    · split <;> simp
theorem index_cons_ne (x : UInt8) (r : List UInt8) (h : x ≠ 47) : Lib.index (x :: r) [47] = if Lib.index r [47] = -1 then -1 else Lib.index r [47] + 1 := by
  rw [Lib.index_one, Lib.index_one]
  rw [Lib.indexByte]
  have hx : (x == 47) = false := by simpa using h
  simp [hx]
theorem index_cons_eq (r : List UInt8) : Lib.index (47 :: r) [47] = 0 := by
  rw [Lib.index_one, Lib.indexByte]; simp
theorem split_cons_eq (r : List UInt8) : Lib.split (47 :: r) [47] = [] :: Lib.split r [47] := by
  unfold Lib.split
  rw [Lib.count_cons_eq, Nat.add_comm, Lib.splitK, index_cons_eq]
  rfl
theorem split_cons_ne (x : UInt8) (r : List UInt8) (h : x ≠ 47) : ∃ a t, Lib.split r [47] = a :: t ∧ Lib.split (x :: r) [47] = (x :: a) :: t := by
  unfold Lib.split
  rw [Lib.count_cons_ne x 47 r h]
  cases Lib.count r [47] with
  | zero => exact ⟨r, [], rfl, rfl⟩
  | succ k =>
    rw [Lib.splitK, Lib.splitK, index_cons_ne x r h]
    have hge := Lib.index_ge r [47]
    by_cases hm : Lib.index r [47] = -1
    · rw [hm]; exact ⟨r, [], rfl, rfl⟩
    · obtain ⟨i, hi⟩ : ∃ i : Nat, Lib.index r [47] = i := ⟨(Lib.index r [47]).toNat, by omega⟩
      rw [hi] at hm ⊢
      have e1 : (((i : Nat) : Int) == -1) = false := by rw [beq_eq_false_iff_ne]; omega
      have e2 : (((i : Nat) : Int) + 1 == -1) = false := by rw [beq_eq_false_iff_ne]; omega
      have e3 : (((i : Nat) : Int) + 1).toNat = i + 1 := by omega
      rw [if_neg (by rw [e1]; simp), if_neg (show ¬ ((i : Int) = -1) by omega), if_neg (by rw [e2]; simp), e3]
      exact ⟨_, _, rfl, by simp⟩
theorem split_eq : ∀ l : List UInt8, Lib.split l [47] = cutOn l
  | [] => rfl
  | x :: r => by
    by_cases h : x = 47
    · subst h
      rw [split_cons_eq, split_eq r]
      simp [cutOn]
    · obtain ⟨a, t, h1, h2⟩ := split_cons_ne x r h
      rw [h2]
      rw [split_eq r] at h1
      unfold cutOn
      rw [if_neg h, h1]
theorem cutOn_length : ∀ l : List UInt8, (cutOn l).length = l.count 47 + 1
  | [] => rfl
  | x :: r => by
    have ih := cutOn_length r
    unfold cutOn
    by_cases h : x = 47
    · subst h; simp [ih]
    · rw [if_neg h, List.count_cons_of_ne h]
      split
      · rename_i e; exact absurd e (cutOn_ne r)
      · rename_i e; rw [e] at ih; simpa using ih
theorem cutOn_join : ∀ l : List UInt8, Lib.join (cutOn l) [47] = l
  | [] => by simp [cutOn, Lib.join_one]
  | x :: r => by
    have ih := cutOn_join r
    unfold cutOn
    by_cases h : x = 47
    · subst h
      rw [if_pos rfl, Lib.join_cons]
      obtain ⟨a, t, e⟩ := List.exists_cons_of_ne_nil (cutOn_ne r)
      rw [e] at ih ⊢
      rw [Lib.join_cons] at ih
      simp [Lib.joinTail] at ih ⊢
      exact ih
    · rw [if_neg h]
      split
      · rename_i e; exact absurd e (cutOn_ne r)
      · rename_i e
        rw [e, Lib.join_cons] at ih
        rw [Lib.join_cons, List.cons_append, ih]
theorem cutOn_none : ∀ {l : List UInt8}, 47 ∉ l → cutOn l = [l]
  | [], _ => rfl
  | x :: r, h => by
    have hx : x ≠ 47 := by rintro rfl; simp at h
    have hr : 47 ∉ r := fun e => h (by simp [e])
    unfold cutOn
    rw [if_neg hx, cutOn_none hr]
theorem cutOn_snoc : ∀ {u t : List UInt8}, 47 ∉ t → cutOn (u ++ 47 :: t) = cutOn u ++ [t]
  | [], t, h => by
    show cutOn (47 :: t) = _
    unfold cutOn
    rw [if_pos rfl, cutOn_none h]
    rfl
  | x :: u, t, h => by
    have ih := cutOn_snoc (u := u) h
    show cutOn (x :: (u ++ 47 :: t)) = _
    unfold cutOn
    rw [ih]
    by_cases hx : x = 47
    · rw [if_pos hx, if_pos hx]; rfl
    · rw [if_neg hx, if_neg hx]
      obtain ⟨a, r, e⟩ := List.exists_cons_of_ne_nil (cutOn_ne u)
      rw [e]
      rfl
/-- What stands behind the last slash; what stands ahead of it. -/
def lastL (l : List UInt8) : List UInt8 := (l.reverse.takeWhile (· ≠ 47)).reverse
def upL (l : List UInt8) : List UInt8 := ((l.reverse.dropWhile (· ≠ 47)).drop 1).reverse
theorem rev_all {t : List UInt8} (h : 47 ∉ t) : ∀ x ∈ t.reverse, (decide (x ≠ 47)) = true := by
  intro x hx
  simp only [List.mem_reverse] at hx
  simp only [ne_eq, decide_eq_true_eq]
  rintro rfl
  exact h hx
theorem lastL_none {l : List UInt8} (h : 47 ∉ l) : lastL l = l := by
  unfold lastL
  have := List.takeWhile_append_of_pos (l₂ := []) (rev_all h)
  rw [List.append_nil, List.takeWhile_nil, List.append_nil] at this
  rw [this, List.reverse_reverse]
theorem upL_none {l : List UInt8} (h : 47 ∉ l) : upL l = [] := by
  unfold upL
  have := List.dropWhile_append_of_pos (l₂ := []) (rev_all h)
  rw [List.append_nil, List.dropWhile_nil] at this
  rw [this]
  rfl
theorem rev_cut (u t : List UInt8) (h : 47 ∉ t) : (u ++ 47 :: t).reverse.takeWhile (· ≠ 47) = t.reverse ∧ (u ++ 47 :: t).reverse.dropWhile (· ≠ 47) = 47 :: u.reverse := by
  have e : (u ++ 47 :: t).reverse = t.reverse ++ 47 :: u.reverse := by simp
  rw [e]
  rw [List.takeWhile_append_of_pos (rev_all h), List.dropWhile_append_of_pos (rev_all h)]
  simp
theorem lastL_snoc {u t : List UInt8} (h : 47 ∉ t) : lastL (u ++ 47 :: t) = t := by
  unfold lastL; rw [(rev_cut u t h).1, List.reverse_reverse]
theorem upL_snoc {u t : List UInt8} (h : 47 ∉ t) : upL (u ++ 47 :: t) = u := by
  unfold upL; rw [(rev_cut u t h).2]; simp
theorem parts (l : List UInt8) : 47 ∉ l ∨ ∃ u t, l = u ++ 47 :: t ∧ 47 ∉ t := by
  induction l with
  | nil => left; simp
  | cons x r ih =>
    rcases ih with h | ⟨u, t, rfl, h⟩
    · by_cases hx : x = 47
      · right; exact ⟨[], r, by simp [hx], h⟩
      · left; simp [Ne.symm hx, h]
    · right; exact ⟨x :: u, t, rfl, h⟩
/-- the place of the last slash -/
theorem last_at (s : ByteArray) : (Lib.lastIndexByte s 47 = -1 ∧ 47 ∉ s.data.toList) ∨ ∃ i : Nat, i < s.size ∧ Lib.lastIndexByte s 47 = i ∧ s.data.toList = s.data.toList.take i ++ 47 :: s.data.toList.drop (i + 1) ∧ 47 ∉ s.data.toList.drop (i + 1) := by
  have hsz := Lib.size_eq s
  have get : ∀ j (h : j < s.data.toList.length), s.data[j]! = s.data.toList[j] := fun j h => by rw [getElem!_pos s.data j (by simpa using h), Array.getElem_toList]
  rcases Lib.lastIndexByte_spec s 47 with ⟨h1, h2⟩ | ⟨i, h0, h1, h2, h3⟩
  · left
    refine ⟨h1, fun hm => ?_⟩
    obtain ⟨j, hj, e⟩ := List.getElem_of_mem hm
    have := h2 j (by omega)
    rw [get j hj, e] at this
    exact this rfl
  · right
    have hi : i < s.data.toList.length := by omega
    refine ⟨i, h0, h1, ?_, fun hm => ?_⟩
    · have hv : s.data.toList[i] = 47 := by
        rw [get i hi] at h2
        apply UInt8.toNat_inj.1
        show _ = 47
        omega
      have := List.drop_eq_getElem_cons hi
      rw [hv] at this
      rw [← this, List.take_append_drop]
    · obtain ⟨j, hj, e⟩ := List.getElem_of_mem hm
      rw [List.getElem_drop] at e
      have hj2 : i + 1 + j < s.data.toList.length := by simp at hj; omega
      have := h3 (i + 1 + j) (by omega) (by omega)
      rw [get _ hj2, e] at this
      exact this rfl
def parentL (l : List UInt8) : List UInt8 := if pathL l = true then upL l else []
def baseL (l : List UInt8) : List UInt8 := if pathL l = true then lastL l else []
end Go.Proofs.YtjkikkpbeceeeaaGreatDoor.NP
