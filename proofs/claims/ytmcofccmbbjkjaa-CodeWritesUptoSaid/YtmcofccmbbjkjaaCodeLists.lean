/- Layer 3: lists of numbers, texts and flags: what they are written as, and how they lie in memory. -/
import Derived.Test.YtmcofccmbbjkjaaCodeWr
namespace Go.Proofs.Ytmcofccmbbjkjaa
open Go.RowKit Go.Lib
namespace CQ
open CP CR

def Yes (w : World) (e : Ending) (w' : World) : Prop := e = .returned (.bool true) ∧ Below w.heap.size w w'
def numsS (ns : List Int) : List UInt8 := ns.flatMap numS
def textsS (ts : List ByteArray) : List UInt8 := ts.flatMap fun t => textS t.data.toList
def flagsS (bs : List Bool) : List UInt8 := bs.flatMap flagS
theorem nums_take {ns : List Int} {k : Nat} {n : Int} (h : ns[k]? = some n) : numsS (ns.take (k + 1)) = numsS (ns.take k) ++ numS n := by
  unfold numsS
  rw [List.take_add_one, h]
  simp
theorem texts_take {ts : List ByteArray} {k : Nat} {t : ByteArray} (h : ts[k]? = some t) : textsS (ts.take (k + 1)) = textsS (ts.take k) ++ textS t.data.toList := by
  unfold textsS
  rw [List.take_add_one, h]
  simp
theorem flags_take {bs : List Bool} {k : Nat} {b : Bool} (h : bs[k]? = some b) : flagsS (bs.take (k + 1)) = flagsS (bs.take k) ++ flagS b := by
  unfold flagsS
  rw [List.take_add_one, h]
  simp
theorem drop_at {α : Type} {l : List α} {k : Nat} {x : α} (h : l[k]? = some x) : l.drop k = x :: l.drop (k + 1) := by
  obtain ⟨hlt, rfl⟩ := List.getElem?_eq_some_iff.1 h
  exact List.drop_eq_getElem_cons hlt
theorem nums_drop {ns : List Int} {k : Nat} {n : Int} (h : ns[k]? = some n) : numsS (ns.drop k) = numS n ++ numsS (ns.drop (k + 1)) := by
  rw [drop_at h]
  rfl
theorem texts_drop {ts : List ByteArray} {k : Nat} {t : ByteArray} (h : ts[k]? = some t) : textsS (ts.drop k) = textS t.data.toList ++ textsS (ts.drop (k + 1)) := by
  rw [drop_at h]
  rfl
theorem flags_drop {bs : List Bool} {k : Nat} {b : Bool} (h : bs[k]? = some b) : flagsS (bs.drop k) = flagS b ++ flagsS (bs.drop (k + 1)) := by
  rw [drop_at h]
  rfl
theorem nums_le (ns : List Int) (k : Nat) : (numsS (ns.take k)).length ≤ (numsS ns).length := by
  have h : numsS ns = numsS (ns.take k) ++ numsS (ns.drop k) := by
    unfold numsS
    rw [← List.flatMap_append, List.take_append_drop]
  rw [h, List.length_append]
  omega
theorem texts_le (ts : List ByteArray) (k : Nat) : (textsS (ts.take k)).length ≤ (textsS ts).length := by
  have h : textsS ts = textsS (ts.take k) ++ textsS (ts.drop k) := by
    unfold textsS
    rw [← List.flatMap_append, List.take_append_drop]
  rw [h, List.length_append]
  omega
theorem flags_le (bs : List Bool) (k : Nat) : (flagsS (bs.take k)).length ≤ (flagsS bs).length := by
  have h : flagsS bs = flagsS (bs.take k) ++ flagsS (bs.drop k) := by
    unfold flagsS
    rw [← List.flatMap_append, List.take_append_drop]
  rw [h, List.length_append]
  omega
theorem drop_le_n (ns : List Int) (k : Nat) : (numsS (ns.drop k)).length ≤ (numsS ns).length := by
  have h : numsS ns = numsS (ns.take k) ++ numsS (ns.drop k) := by
    unfold numsS
    rw [← List.flatMap_append, List.take_append_drop]
  rw [h, List.length_append]
  omega
theorem drop_le_t (ts : List ByteArray) (k : Nat) : (textsS (ts.drop k)).length ≤ (textsS ts).length := by
  have h : textsS ts = textsS (ts.take k) ++ textsS (ts.drop k) := by
    unfold textsS
    rw [← List.flatMap_append, List.take_append_drop]
  rw [h, List.length_append]
  omega
theorem drop_le_f (bs : List Bool) (k : Nat) : (flagsS (bs.drop k)).length ≤ (flagsS bs).length := by
  have h : flagsS bs = flagsS (bs.take k) ++ flagsS (bs.drop k) := by
    unfold flagsS
    rw [← List.flatMap_append, List.take_append_drop]
  rw [h, List.length_append]
  omega
/-- A list lies in memory, one cell each: in whatever block, from whatever place on. -/
def At {α : Type} (enc : α → Value) (w : World) (ao : Option Addr) (xs : List α) : Prop :=
  0 < xs.length → ∃ g o, ao = some ⟨g, o, none⟩ ∧ g < w.heap.size ∧ ∀ (k : Nat) x, xs[k]? = some x → w.cell? ⟨g, o + k, none⟩ = some (enc x)
abbrev IntsAt := At (fun n : Int => Value.int .i64 n)
abbrev StrsAt := At (fun t : ByteArray => Value.string t)
abbrev BoolsAt := At (fun b : Bool => Value.bool b)
theorem num_any (n : Int) (w : World) (h : n < 2 ^ 63) : Calls Try.prog 8 #[.int .i64 n] w (NumPost (numS n) w) := by
  unfold numS
  by_cases h0 : n < 0
  · rw [if_pos h0]
    exact num_neg n w h0
  · rw [if_neg h0]
    obtain ⟨m, rfl⟩ := nat_i64 (n := n) (by omega)
    exact num_nat m w (by omega)
theorem wflag_post (b : Bool) (w : World) : Calls Try.prog 10 #[.bool b] w (NumPost (flagS b) w) :=
  (wflag_any b w).mono fun _ _ ⟨he, hw⟩ => ⟨_, he, rfl, hw ▸ Below.refl _ _⟩
theorem cat_data {t v : ByteArray} : (t ++ v).data.toList = t.data.toList ++ v.data.toList := by simp [ByteArray.data_append]
theorem rd_head {m : Nat} {r : List UInt8} (h : m < 2 ^ 63) : rd 0 0 (nm m ++ r) = (m, (nm m).length, 0) := by
  have e9 : (128 : Nat) ^ (9 - 0) = 2 ^ 63 := by decide
  rw [rd_nm (by decide) (by omega) (.inl rfl)]
  simp
theorem cnt_head {t r : List UInt8} (h : t.length < 2 ^ 63) : cnt (textS t ++ r) (t.length : Int) 1 = (t.length, (nm t.length).length, 0) := by
  have h1 : rd 0 0 (textS t ++ r) = (t.length, (nm t.length).length, 0) := by
    unfold textS
    rw [List.append_assoc]
    exact rd_head h
  refine cnt_ok h1 (by omega) ?_
  rw [show max (1 : Int) 1 = 1 from rfl, Int.ediv_one]
  unfold textS
  simp only [List.length_append]
  omega
theorem text_mid {t r : List UInt8} : ((textS t ++ r).drop (nm t.length).length).take t.length = t := by
  unfold textS
  rw [List.append_assoc, List.drop_left, List.take_left]
theorem text_end {t r : List UInt8} : (textS t ++ r).drop ((nm t.length).length + t.length) = r := by
  have e : (textS t).length = (nm t.length).length + t.length := by unfold textS; rw [List.length_append]
  rw [← e, List.drop_left]
end CQ
end Go.Proofs.Ytmcofccmbbjkjaa
