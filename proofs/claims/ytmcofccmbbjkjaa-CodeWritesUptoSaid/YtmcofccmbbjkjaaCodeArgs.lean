/- Layer 3: lists of numbers, texts and flags out of a statement's arguments: how they lie, and how many bytes they are written as. -/
import Derived.Test.YtmcofccmbbjkjaaCodeLists
import Derived.Test.YtmcofccmbbjkjaaCodeFrame
import Derived.SliceStrings
import Derived.Deep.Grids
namespace Go.Proofs.Ytmcofccmbbjkjaa
open Go.ChangeShapes Go.WideShapes Go.ChangeAt Go.RowKit Go.Lib
namespace CA
open CQ CP

theorem nm_nine {n : Nat} (h : n < 2 ^ 63) : (nm n).length ≤ 9 := by
  have e9 : (128 : Nat) ^ (9 - 0) = 2 ^ 63 := by decide
  have := nm_length (n := n) (k := 0) (by decide) (by omega)
  omega
theorem numsS_len : ∀ (ns : List Int), (∀ n ∈ ns, n < 2 ^ 63) → (numsS ns).length ≤ 9 * ns.length
  | [], _ => by simp [numsS]
  | n :: ns, h => by
    have ih := numsS_len ns (fun m hm => h m (by simp [hm]))
    have e : numsS (n :: ns) = numS n ++ numsS ns := rfl
    have h1 : (numS n).length ≤ 9 := by
      unfold numS
      by_cases h0 : n < 0
      · rw [if_pos h0]; simp
      · rw [if_neg h0]
        exact nm_nine (by have := h n (by simp); omega)
    rw [e, List.length_append, List.length_cons]
    omega
theorem flagsS_len : ∀ (bs : List Bool), (flagsS bs).length = bs.length
  | [] => rfl
  | b :: bs => by
    have e : flagsS (b :: bs) = flagS b ++ flagsS bs := rfl
    rw [e, List.length_append, flagsS_len bs, List.length_cons]
    cases b
    · show 1 + _ = _; omega
    · show 1 + _ = _; omega
theorem bulk_append {H : Type} : ∀ (a b : List (DataW H)), Rows.uptoBulkAll (a ++ b) = Rows.uptoBulkAll a + Rows.uptoBulkAll b
  | [], b => by simp [Rows.uptoBulkAll]
  | x :: a, b => by
    rw [List.cons_append, Rows.uptoBulkAll, Rows.uptoBulkAll, bulk_append a b]
    omega
theorem lits_bulk {H : Type} : ∀ (zs : List Int), Rows.uptoBulkAll (lits .i64 zs : List (DataW H)) = zs.length
  | [] => by simp [lits, Rows.uptoBulkAll]
  | z :: zs => by
    have ih := lits_bulk (H := H) zs
    unfold lits at ih ⊢
    rw [List.map_cons, Rows.uptoBulkAll, ih, List.length_cons]
    simp only [Rows.uptoBulk]
    omega
theorem textsS_len {H : Type} : ∀ (ts : List ByteArray), (∀ t ∈ ts, t.size ≤ maxLen) → (textsS ts).length ≤ 9 * Rows.uptoBulkAll (strs ts : List (DataW H)) ∧ ts.length ≤ Rows.uptoBulkAll (strs ts : List (DataW H))
  | [], _ => by simp [textsS]
  | t :: ts, h => by
    have ih := textsS_len (H := H) ts (fun m hm => h m (by simp [hm]))
    have h0 := h t (by simp)
    have e : textsS (t :: ts) = textS t.data.toList ++ textsS ts := rfl
    have h1 : (nm t.data.toList.length).length ≤ 9 := nm_nine (by rw [← Lib.size_eq]; unfold maxLen at h0; omega)
    have e2 : (textS t.data.toList).length = (nm t.data.toList.length).length + t.data.toList.length := by unfold textS; rw [List.length_append]
    unfold strs at ih ⊢
    rw [e, List.length_append, List.map_cons, Rows.uptoBulkAll, Rows.uptoBulk, List.length_cons]
    omega
theorem ints_arg {H : Type} {enc : TypeId × Value → H} {W : World} {spare : Nat → Bool} {held : Bool} {fuel len cap : Nat} {a0 : Option Addr} {x : DataW H × List MemPlace}
    (h : DataW.trod enc Try.prog W 0 spare held fuel 28 (Value.slice a0 len cap).cells.toList = some x) :
    ∃ ns : List Int, ns.length = len ∧ IntsAt W a0 ns ∧ (∀ n ∈ ns, n < 2 ^ 63) ∧ len ≤ Rows.uptoBulk x.1 ∧ len ≤ maxLen := by
  rcases open_ints Try.underlying28 Try.underlying3 (by kernel_rfl) h with ⟨hcs, hx⟩ | ⟨ad, len', cap', zs, hcs, _, hl, hm, hzl, hx, hcell, hwf⟩
  · simp [Value.cells] at hcs
    obtain ⟨rfl, rfl, rfl⟩ := hcs
    have hA : IntsAt W none [] := fun h => absurd h (by simp)
    exact ⟨[], rfl, hA, fun n hn => absurd hn (by simp), by simp, by simp⟩
  · simp [Value.cells] at hcs
    obtain ⟨rfl, rfl, rfl⟩ := hcs
    have hlz : len ≤ zs.length := by rw [hzl]; split <;> omega
    have hlen : (zs.take len).length = len := by rw [List.length_take]; omega
    refine ⟨zs.take len, hlen, fun h0 => ?_, fun n hn => ?_, ?_, by omega⟩
    · rw [hlen] at h0
      obtain ⟨b, off, spot⟩ := ad
      have c0 := hcell 0 (by omega)
      have hspot : spot = none := by simpa [Addr.add] using World.cell?_spot c0
      subst hspot
      refine ⟨b, off, rfl, (World.block_lt_of_cell? _ _ c0 :), fun k r hk => ?_⟩
      have hkl : k < len := by have := (List.getElem?_eq_some_iff.1 hk).1; omega
      have d0 := hcell k (by omega)
      rw [add_plain] at d0
      rw [List.getElem?_take_of_lt hkl] at hk
      rw [List.getD_eq_getElem?_getD, hk] at d0
      exact d0
    · have := hwf n (List.mem_of_mem_take hn)
      simp [Lit.wf, IntKind.min, IntKind.max, IntKind.signed, IntKind.bits] at this
      omega
    · subst hx
      simp only [Rows.uptoBulk]
      rw [lits_bulk, hlen]
      omega
theorem strs_arg {H : Type} {enc : TypeId × Value → H} {W : World} {spare : Nat → Bool} {held : Bool} {fuel len cap : Nat} {a0 : Option Addr} {x : DataW H × List MemPlace}
    (h : DataW.trod enc Try.prog W 0 spare held fuel 29 (Value.slice a0 len cap).cells.toList = some x) :
    ∃ ts : List ByteArray, ts.length = len ∧ StrsAt W a0 ts ∧ (∀ t ∈ ts, t.size ≤ maxLen) ∧ (textsS ts).length ≤ 9 * Rows.uptoBulk x.1 ∧ len ≤ maxLen := by
  rcases open_strings Try.underlying29 Try.underlying9 (by kernel_rfl) h with ⟨hcs, hx⟩ | ⟨ad, len', cap', zs, hcs, _, hl, hm, hzl, hx, hcell, hwf⟩
  · simp [Value.cells] at hcs
    obtain ⟨rfl, rfl, rfl⟩ := hcs
    have hA : StrsAt W none [] := fun h => absurd h (by simp)
    exact ⟨[], rfl, hA, fun n hn => absurd hn (by simp), by simp [textsS], by simp⟩
  · simp [Value.cells] at hcs
    obtain ⟨rfl, rfl, rfl⟩ := hcs
    have hlz : len ≤ zs.length := by rw [hzl]; split <;> omega
    have hlen : (zs.take len).length = len := by rw [List.length_take]; omega
    refine ⟨zs.take len, hlen, fun h0 => ?_, fun n hn => hwf n (List.mem_of_mem_take hn), ?_, by omega⟩
    · rw [hlen] at h0
      obtain ⟨b, off, spot⟩ := ad
      have c0 := hcell 0 (by omega)
      have hspot : spot = none := by simpa [Addr.add] using World.cell?_spot c0
      subst hspot
      refine ⟨b, off, rfl, (World.block_lt_of_cell? _ _ c0 :), fun k r hk => ?_⟩
      have hkl : k < len := by have := (List.getElem?_eq_some_iff.1 hk).1; omega
      have d0 := hcell k (by omega)
      rw [add_plain] at d0
      rw [List.getElem?_take_of_lt hkl] at hk
      rw [List.getD_eq_getElem?_getD, hk] at d0
      exact d0
    · subst hx
      simp only [Rows.uptoBulk]
      have := (textsS_len (H := H) (zs.take len) (fun t ht => hwf t (List.mem_of_mem_take ht))).1
      omega
theorem bools_arg {H : Type} {enc : TypeId × Value → H} {W : World} {held : Bool} {fuel len cap : Nat} {a0 : Option Addr} {x : DataW H × List MemPlace}
    (h : DataW.trod enc Try.prog W 0 (fun _ => true) held fuel 30 (Value.slice a0 len cap).cells.toList = some x) :
    ∃ bs : List Bool, bs.length = len ∧ BoolsAt W a0 bs ∧ len ≤ Rows.uptoBulk x.1 ∧ len ≤ maxLen := by
  rcases Deep.open_bools Try.underlying30 Try.underlying4 (by kernel_rfl) h with ⟨hcs, hx⟩ | ⟨ad, len', cap', B, hcs, _, hl, hm, hx, hcell⟩
  · simp [Value.cells] at hcs
    obtain ⟨rfl, rfl, rfl⟩ := hcs
    have hA : BoolsAt W none [] := fun h => absurd h (by simp)
    exact ⟨[], rfl, hA, by simp, by simp⟩
  · simp [Value.cells] at hcs
    obtain ⟨rfl, rfl, rfl⟩ := hcs
    have hlen : ((List.range len).map B).length = len := by simp
    refine ⟨(List.range len).map B, hlen, fun h0 => ?_, ?_, by omega⟩
    · rw [hlen] at h0
      obtain ⟨b, off, spot⟩ := ad
      have c0 := hcell 0 (by omega)
      have hspot : spot = none := by simpa [Addr.add] using World.cell?_spot c0
      subst hspot
      refine ⟨b, off, rfl, (World.block_lt_of_cell? _ _ c0 :), fun k r hk => ?_⟩
      have hkl : k < len := by have := (List.getElem?_eq_some_iff.1 hk).1; omega
      have d0 := hcell k (by omega)
      rw [add_plain] at d0
      rw [List.getElem?_map, List.getElem?_range hkl] at hk
      simp only [Option.map_some, Option.some.injEq] at hk
      rw [← hk]
      exact d0
    · subst hx
      have hb : ∀ (l : List Nat), l.length ≤ Rows.uptoBulkAll (l.map fun i => (DataW.lit (.bool (B i)) : DataW H)) := by
        intro l
        induction l with
        | nil => simp
        | cons x l ih => simp only [List.map_cons, List.length_cons, Rows.uptoBulkAll, Rows.uptoBulk]; omega
      have := hb (List.range len)
      rw [List.length_range] at this
      simp only [Deep.boolRow, Rows.uptoBulk]
      omega
end CA
end Go.Proofs.Ytmcofccmbbjkjaa
