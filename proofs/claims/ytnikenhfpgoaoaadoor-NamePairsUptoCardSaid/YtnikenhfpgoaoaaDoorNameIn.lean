/- Layer 1: the contracts of name.Within, name.Join of two texts, and of the statements' own guard 'awake'. -/
import Derived.Test.YtnikenhfpgoaoaaDoorNameFn
namespace Go.Proofs.YtnikenhfpgoaoaaDoor
open Go.RowKit Go.Lib
namespace NI
open NF

theorem cut_any (s p : ByteArray) (w : World) :
    Calls Tryd.prog 38 #[.string s, .string p] w fun e w' => ∃ t : ByteArray, e = .returned (.tuple #[.string t, .bool (Lib.hasPrefix s.data.toList p.data.toList)]) ∧ t.data.toList = Lib.trimPrefix s.data.toList p.data.toList ∧ w = w' := by
  refine (Tryd.strings_CutPrefix s p w).mono ?_
  rintro e w' ⟨rfl, rfl⟩
  exact ⟨_, rfl, by simp, rfl⟩

theorem within_no {p q : List UInt8} (h : NP.pathL p = false) : NP.withinL p q = false := by unfold NP.withinL; rw [h]; rfl
theorem within_pre {p q : List UInt8} (h : Lib.hasPrefix p q = false) : NP.withinL p q = false := by unfold NP.withinL; rw [h]; simp
theorem within_yes {p q t : List UInt8} (h1 : NP.pathL p = true) (h2 : Lib.hasPrefix p q = true) (ht : t = Lib.trimPrefix p q) : NP.withinL p q = NP.restOk q t := by
  unfold NP.withinL
  rw [h1, h2, ht]
  unfold Lib.trimPrefix
  rw [if_pos h2]
  simp

set_option maxHeartbeats 800000 in
theorem within_any (p q : ByteArray) (w : World) (he : Env w) (hp : p.size ≤ maxLen) :
    Calls Tryd.prog 24 #[.string p, .string q] w fun e w' => e = .returned (.bool (NP.withinL p.data.toList q.data.toList)) ∧ Below w.heap.size w w' := by
  have cP := path_any p w he hp
  unfold maxLen at hp
  go_enter Tryd.func24, Tryd.ntmps24
  go_wp2_with fail
  refine cP.mono ?_
  rintro e w1 ⟨rfl, hb⟩
  have Hb := Lib.hid hb
  clear hb cP he
  cases hv : NP.pathL p.data.toList
  · have H := Lib.hid (within_no (q := q.data.toList) hv)
    clear hv
    go_wp2
    go_ret
    exact ⟨by rw [H.out]; rfl, Hb.out⟩
  · have Hv := Lib.hid hv
    clear hv
    have cC := cut_any p q w1
    go_wp2_with fail
    refine cC.mono ?_
    rintro e w2 ⟨t, rfl, ht, rfl⟩
    have Ht := Lib.hid ht
    clear cC ht
    cases hh : Lib.hasPrefix p.data.toList q.data.toList
    · have H := Lib.hid (within_pre hh)
      clear hh
      go_wp2
      go_ret
      exact ⟨by rw [H.out]; rfl, Hb.out⟩
    · have H := Lib.hid (within_yes Hv.out hh Ht.out)
      clear hh
      by_cases hq0 : q.toList = []
      · have Hq0 := Lib.hid hq0
        have hq1 : q.toList.isEmpty = true := by rw [hq0]; rfl
        clear hq0
        go_wp2
        go_ret
        refine ⟨?_, Hb.out⟩
        have e : q.data.toList = [] := by rw [← Lib.toList_data]; exact Hq0.out
        rw [H.out]
        unfold NP.restOk
        rw [e]
        rfl
      · have Hq0 := Lib.hid hq0
        have hq1 : q.toList.isEmpty = false := by simpa using hq0
        clear hq0
        by_cases ht0 : t.toList = []
        · have Ht0 := Lib.hid ht0
          have ht1 : t.toList.isEmpty = true := by rw [ht0]; rfl
          clear ht0
          go_wp2
          go_ret
          refine ⟨?_, Hb.out⟩
          have e : t.data.toList = [] := by rw [← Lib.toList_data]; exact Ht0.out
          rw [H.out]
          unfold NP.restOk
          rw [e]
          simp
        · have Ht0 := Lib.hid ht0
          have ht1 : t.toList.isEmpty = false := by simpa using ht0
          have hz : 0 < t.size := by
            rw [Lib.size_eq, ← Lib.toList_data]
            exact List.length_pos_iff.2 ht0
          have hzi : (0 : Int) < t.size := by omega
          clear ht0
          have Hh : Hid (t.data.toList.head? = some t[0]) := Lib.hid (by rw [List.head?_eq_getElem?]; exact Lib.data_getElem? t 0 hz)
          have Hfin : Hid (NP.restOk q.data.toList t.data.toList = (((t[0].toNat : Nat) : Int) == 47)) := Lib.hid (by
            unfold NP.restOk
            have e1 : q.data.toList ≠ [] := by rw [← Lib.toList_data]; exact Hq0.out
            have e2 : t.data.toList ≠ [] := by rw [← Lib.toList_data]; exact Ht0.out
            rw [Hh.out, decide_eq_false e1, decide_eq_false e2, Bool.false_or, Bool.false_or, Bool.eq_iff_iff]
            simp only [decide_eq_true_eq, Option.some.injEq, beq_iff_eq]
            constructor
            · intro h; rw [h]; rfl
            · intro h; apply UInt8.toNat_inj.1; show _ = 47; omega)
          go_wp2
          go_ret
          exact ⟨by rw [H.out, Hfin.out]; rfl, Hb.out⟩

/- Join -/
theorem lens_le (n : Nat) : ∀ (ls : List (List UInt8)), (∀ l ∈ ls, l.length ≤ n) → Lib.lens ls ≤ ls.length * n
  | [], _ => by simp [Lib.lens]
  | x :: r, h => by
    have h1 := h x (by simp)
    have h2 := lens_le n r (fun l hl => h l (by simp [hl]))
    have e : Lib.lens (x :: r) = x.length + Lib.lens r := by simp [Lib.lens]
    rw [e, List.length_cons, Nat.succ_mul]
    omega
theorem join_le (sep : List UInt8) (n : Nat) : ∀ (ls : List (List UInt8)), (∀ l ∈ ls, l.length ≤ n) → (Lib.join ls sep).length ≤ ls.length * (n + sep.length)
  | [], _ => by simp [Lib.join_nil]
  | x :: r, h => by
    have h2 := lens_le n (x :: r) h
    rw [Lib.join_length, Nat.mul_add]
    have : sep.length * r.length ≤ (x :: r).length * sep.length := by rw [Nat.mul_comm]; exact Nat.mul_le_mul_right _ (by simp)
    omega
theorem allL_len {ls : List (List UInt8)} (h : NP.allL ls = true) : ∀ l ∈ ls, l.length ≤ 64 := by
  intro l hl
  have := List.all_eq_true.1 h l hl
  unfold NP.nameL at this
  simp only [Bool.and_eq_true, decide_eq_true_eq] at this
  exact this.1.1.1.1.2
def joinR (ls : List (List UInt8)) : List UInt8 × Bool := if (decide (ls.length ≤ 16) && NP.allL ls && NP.pathL (Lib.join ls [47])) = true then (Lib.join ls [47], true) else ([], false)
def JoinPost (ls : List (List UInt8)) (w : World) (e : Ending) (w' : World) : Prop :=
  ∃ (t : ByteArray) (b : Bool), e = .returned (.tuple #[.string t, .bool b]) ∧ joinR ls = (t.data.toList, b) ∧ Below w.heap.size w w'
theorem path_empty : NP.pathL [] = false := rfl
theorem joinR_long {ls : List (List UInt8)} (h : 16 < ls.length) : joinR ls = ([], false) := by
  unfold joinR
  rw [decide_eq_false (by omega)]
  simp
theorem joinR_bad {ls : List (List UInt8)} (h : NP.allL ls = false) : joinR ls = ([], false) := by
  unfold joinR
  rw [h]
  simp
theorem joinR_of {ls : List (List UInt8)} (h0 : ls.length ≤ 16) (h : NP.allL ls = true) : joinR ls = if NP.pathL (Lib.join ls [47]) = true then (Lib.join ls [47], true) else ([], false) := by
  unfold joinR
  rw [h, decide_eq_true h0]
  simp
set_option maxHeartbeats 800000 in
theorem join_nil (a : Option Addr) (c : Nat) (w : World) (he : Env w) :
    Calls Tryd.prog 26 #[.slice a 0 c] w (JoinPost [] w) := by
  have cJ := Tryd.strings_Join_none a c ⟨#[47]⟩
  have cP := fun W (h : Env W) => path_any ByteArray.empty W h (by decide)
  have cA := all_nil a c
  have H := Lib.hid path_empty
  have He := Lib.hid he
  clear he
  go_enter Tryd.func26, Tryd.ntmps26
  go_wp2_with fail
  refine (cA _).mono ?_
  rintro e w1 ⟨rfl, rfl⟩
  go_wp2_with fail
  refine (cJ _).mono ?_
  rintro e w1 ⟨rfl, rfl⟩
  go_wp2_with fail
  refine (cP _ He.out).mono ?_
  rintro e w2 ⟨rfl, hb⟩
  have e0 : NP.pathL ByteArray.empty.data.toList = false := H.out
  rw [e0]
  go_wp2
  go_ret2
  exact ⟨_, _, rfl, rfl, hb⟩
set_option maxHeartbeats 800000 in
theorem join_any (bk o c : Nat) (xs : List ByteArray) (w : World) (he : Env w) (hcells : ∀ (j : Nat) x, xs[j]? = some x → w.cell? ⟨bk, o + j, none⟩ = some (.string x))
    (hbk : bk < w.heap.size) (hsz : ∀ x ∈ xs, x.size ≤ maxLen) (hlen : xs.length ≤ c) (hcap : xs.length ≤ 9223372036854775807) :
    Calls Tryd.prog 26 #[.slice (some ⟨bk, o, none⟩) xs.length c] w (JoinPost (xs.map (·.data.toList)) w) := by
  have He := Lib.hid he
  by_cases h16 : xs.length ≤ 16
  · have hz : ¬ (16 : Int) < xs.length := by omega
    have hd : decide ((16 : Int) < xs.length) = false := decide_eq_false hz
    have cA := all_any bk o c xs w he hcells hbk hsz (by unfold maxLen; omega)
    have Hlen := Lib.hid (show (xs.map (·.data.toList)).length ≤ 16 by simpa using h16)
    have Hcells := Lib.hid hcells
    have Hsz := Lib.hid hsz
    clear hsz hcells he
    go_enter Tryd.func26, Tryd.ntmps26
    go_wp2_with fail
    refine cA.mono ?_
    rintro e w1 ⟨rfl, hb⟩
    have Hb := Lib.hid hb
    clear hb cA
    cases ha : NP.allL (xs.map (·.data.toList))
    · have H := Lib.hid (joinR_bad ha)
      clear ha
      go_wp2
      go_ret2
      exact ⟨_, _, rfl, H.out, Hb.out⟩
    · have Ha := Lib.hid ha
      have H := Lib.hid (joinR_of Hlen.out ha)
      clear ha
      have hl := join_le [47] 64 (xs.map (·.data.toList)) (allL_len Ha.out)
      have hl2 : (Lib.join (xs.map (·.data.toList)) [47]).length ≤ 1040 := by simp at hl; omega
      clear hl
      have cJ := Tryd.strings_Join bk o c xs ⟨#[47]⟩ w1 (fun j x hj => by rw [Hb.out.cell (p := ⟨bk, o + j, none⟩) hbk]; exact Hcells.out j x hj) (Nat.lt_of_lt_of_le hbk Hb.out.size) (by omega) hlen (by show (Lib.join (xs.map (·.data.toList)) [47]).length ≤ _; omega)
      obtain ⟨t, ht⟩ : ∃ t : ByteArray, t = ⟨(Lib.join (xs.map (·.data.toList)) [47]).toArray⟩ := ⟨_, rfl⟩
      have htd : t.data.toList = Lib.join (xs.map (·.data.toList)) [47] := by rw [ht]
      have Htd := Lib.hid htd
      have hts : t.size ≤ 1040 := by rw [Lib.size_eq, htd]; exact hl2
      have cJ' : Calls Tryd.prog 39 #[.slice (some ⟨bk, o, none⟩) xs.length c, .string ⟨#[47]⟩] w1 fun e w' => e = .returned (.string t) ∧ Below w1.heap.size w1 w' := by rw [ht]; exact cJ
      clear cJ ht htd hl2
      go_wp2_with fail
      refine cJ'.mono ?_
      rintro e w2 ⟨rfl, hb2⟩
      have Hb2 := Lib.hid (Hb.out.trans (hb2.mono Hb.out.size))
      have cP := path_any t w2 (He.out.below Hb2.out) (by unfold maxLen; omega)
      clear hb2 cJ'
      go_wp2_with fail
      refine cP.mono ?_
      rintro e w3 ⟨rfl, hb3⟩
      have Hb3 := Lib.hid (Hb2.out.trans (hb3.mono Hb2.out.size))
      clear hb3 cP
      cases hp : NP.pathL t.data.toList
      · have H2 : Hid (joinR (xs.map (·.data.toList)) = ([], false)) := Lib.hid (by rw [H.out, ← Htd.out, hp]; rfl)
        clear hp
        go_wp2
        go_ret2
        exact ⟨_, _, rfl, H2.out, Hb3.out⟩
      · have H2 : Hid (joinR (xs.map (·.data.toList)) = (t.data.toList, true)) := Lib.hid (by rw [H.out, ← Htd.out, hp]; rfl)
        clear hp
        go_wp2
        go_ret2
        exact ⟨_, _, rfl, H2.out, Hb3.out⟩
  · have hz : (16 : Int) < xs.length := by omega
    have H := Lib.hid (joinR_long (ls := xs.map (·.data.toList)) (by simp; omega))
    clear hsz hcells he
    go_enter Tryd.func26, Tryd.ntmps26
    go_wp2
    go_ret2
    exact ⟨_, _, rfl, H.out, Below.refl _ _⟩
end NI
end Go.Proofs.YtnikenhfpgoaoaaDoor
