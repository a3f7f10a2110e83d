/- Layer 1: the contract of name.Clash: where it tells two places they clash and stand in their order; where it tells none no two clash. -/
import Derived.Test.YtnikenhfpgoaoaaDoorNameFold
import Derived.Maps.OwnSet
import Derived.Carry
namespace Go.Proofs.YtnikenhfpgoaoaaDoor
open Go.RowKit Go.Lib Go.Maps Go.WideMaps
namespace NK
open NFo

def P (ps : List ByteArray) (i : Nat) : List UInt8 := (ps.getD i ByteArray.empty).data.toList
theorem P_of {ps : List ByteArray} {i : Nat} {x : ByteArray} (h : ps[i]? = some x) : P ps i = x.data.toList := by
  unfold P; rw [List.getD_eq_getElem?_getD, h]; rfl
def NoClash (ps : List ByteArray) (k : Nat) : Prop := ∀ a b, b < a → a < k → foldL (P ps b) = foldL (P ps a) → P ps b = P ps a
structure Inv {H : Type} (ps : List ByteArray) (k : Nat) (D : DataW H) : Prop where
  yes : ∀ kb, has D (.string kb) = true → ∃ i, i < k ∧ D.atKey (.string kb) (.lit (.int .i64 0)) = .lit (.int .i64 i) ∧ foldL (P ps i) = kb
  no : ∀ kb, has D (.string kb) = false → ∀ i, i < k → foldL (P ps i) ≠ kb
theorem Inv.zero {H : Type} (ps : List ByteArray) : Inv (H := H) ps 0 (.map []) :=
  ⟨fun kb h => by simp [has_eq] at h, fun _ _ i hi => by omega⟩
theorem Inv.put {H : Type} {ps : List ByteArray} {k : Nat} {D : DataW H} (h : Inv ps k D) (hD : IsMap D) : Inv ps (k + 1) (D.put (.string (foldL (P ps k))) (.lit (.int .i64 k))) := by
  refine ⟨fun kb hk => ?_, fun kb hk i hi => ?_⟩
  · by_cases e : kb = foldL (P ps k)
    · subst e
      exact ⟨k, by omega, atKey_put_same hD (by exact True.intro) _ _, rfl⟩
    · have hne : (Lit.string kb) ≠ Lit.string (foldL (P ps k)) := by intro e2; injection e2 with e2; exact e e2
      rw [has_put_other hne] at hk
      obtain ⟨i, hi, ha, hf⟩ := h.yes kb hk
      exact ⟨i, by omega, by rw [atKey_put_other hne]; exact ha, hf⟩
  · by_cases e : kb = foldL (P ps k)
    · subst e
      rw [has_put_same hD (by exact True.intro)] at hk
      cases hk
    · have hne : (Lit.string kb) ≠ Lit.string (foldL (P ps k)) := by intro e2; injection e2 with e2; exact e e2
      rw [has_put_other hne] at hk
      by_cases hik : i = k
      · subst hik; exact fun e2 => e e2.symm
      · exact h.no kb hk i (by omega)
theorem Inv.keep {H : Type} {ps : List ByteArray} {k : Nat} {D : DataW H} (h : Inv ps k D) (hk : has D (.string (foldL (P ps k))) = true) : Inv ps (k + 1) D := by
  refine ⟨fun kb hkb => ?_, fun kb hkb i hi => ?_⟩
  · obtain ⟨i, hi, ha, hf⟩ := h.yes kb hkb
    exact ⟨i, by omega, ha, hf⟩
  · by_cases hik : i = k
    · subst hik
      intro e
      rw [e, hkb] at hk
      cases hk
    · exact h.no kb hkb i (by omega)
theorem NoClash.new {H : Type} {ps : List ByteArray} {k : Nat} {D : DataW H} (h : NoClash ps k) (hI : Inv ps k D) (hk : has D (.string (foldL (P ps k))) = false) : NoClash ps (k + 1) := by
  intro a b hb ha he
  by_cases hak : a = k
  · subst hak; exact absurd he (hI.no _ hk b hb)
  · exact h a b hb (by omega) he
theorem NoClash.same {ps : List ByteArray} {k i : Nat} (h : NoClash ps k) (hi : i < k) (hf : foldL (P ps i) = foldL (P ps k)) (he : P ps i = P ps k) : NoClash ps (k + 1) := by
  intro a b hb ha hab
  by_cases hak : a = k
  · subst hak
    rcases Nat.lt_trichotomy b i with h1 | h1 | h1
    · exact (h i b h1 hi (hab.trans hf.symm)).trans he
    · subst h1; exact he
    · exact (h b i h1 hb (hf.trans hab.symm)).symm.trans he
  · exact h a b hb (by omega) hab
def Told (ps : List ByteArray) (i j : Int) : Prop :=
  (i = -1 ∧ j = -1 ∧ NoClash ps ps.length) ∨ ∃ m n : Nat, i = m ∧ j = n ∧ m < n ∧ n < ps.length ∧ foldL (P ps m) = foldL (P ps n) ∧ P ps m ≠ P ps n
def ClashPost (ps : List ByteArray) (w : World) (e : Ending) (w' : World) : Prop := ∃ i j : Int, e = .returned (.tuple #[.int .i64 i, .int .i64 j]) ∧ Told ps i j ∧ Below w.heap.size w w'
theorem law : Keyed Tryd.prog 9 := string_keyed Tryd.underlying9
theorem zero (w : World) : (zeroValue 3).run Tryd.prog w = .ok (.int .i64 0) w := by kernel_rfl
theorem owns_below {H : Type} {w w' : World} {b n : Nat} {D : DataW H} (h : w.ownsMap Tryd.prog 9 (plainElem Tryd.prog 3) b n D) (hb : Below w.heap.size w w') : w'.ownsMap Tryd.prog 9 (plainElem Tryd.prog 3) b n D := by
  have hlt := h.lt
  obtain ⟨es, clock, h1, h2⟩ := h
  exact ⟨es, clock, by rw [hb.block b hlt]; exact h1, h2⟩
theorem clash_nil (a : Option Addr) (c : Nat) (w : World) : Calls Tryd.prog 27 #[.slice a 0 c] w (ClashPost [] w) := by
  have hmm := @run_makeMap Tryd.prog
  go_enter Tryd.func27, Tryd.ntmps27
  go_wp2
  refine wp_loop_rounds 1 ?_
  rw [rounds_succ]
  go_wp2
  go_ret2
  exact ⟨_, _, rfl, .inl ⟨rfl, rfl, fun a b _ h => absurd h (Nat.not_lt_zero _)⟩, (Below.refl _ _).alloc (Nat.le_refl _) _⟩
set_option maxRecDepth 100000 in
set_option maxHeartbeats 1600000 in
theorem clash_any (bk o c : Nat) (ps : List ByteArray) (w : World) (hcells : ∀ (j : Nat) x, ps[j]? = some x → w.cell? ⟨bk, o + j, none⟩ = some (.string x))
    (hbk : bk < w.heap.size) (hsz : ∀ x ∈ ps, x.size ≤ maxLen) (hlen : ps.length < maxLen) :
    Calls Tryd.prog 27 #[.slice (some ⟨bk, o, none⟩) ps.length c] w (ClashPost ps w) := by
  have hmm := @run_makeMap Tryd.prog
  have Hc := Lib.hid hcells
  have Hsz := Lib.hid hsz
  clear hcells hsz
  unfold maxLen at hlen
  go_enter Tryd.func27, Tryd.ntmps27
  go_wp2
  go_loopw [13] (fun i wr => ∃ k : Nat, k ≤ ps.length ∧ i = .int .i64 k ∧ (∃ D : DataW Unit, wr.ownsMap Tryd.prog 9 (plainElem Tryd.prog 3) w.heap.size k D ∧ Inv ps k D) ∧ NoClash ps k ∧ Below w.heap.size w wr) (fun i _ => ps.length - (Go.RowKit.intOf i).toNat)
  case atStart => exact ⟨0, Nat.zero_le _, rfl, ⟨.map [], World.ownsMap_made _ _ _ _, Inv.zero ps⟩, fun a b _ h => absurd h (Nat.not_lt_zero _), (Below.refl _ _).alloc (Nat.le_refl _) _⟩
  case round =>
    obtain ⟨k, hk, rfl, ⟨D, hown, hinv⟩, hnc, hb⟩ := hrel
    have HO := Lib.hid hown
    have HI := Lib.hid hinv
    have HN := Lib.hid hnc
    have HB := Lib.hid hb
    clear hown hinv hnc hb hmm
    by_cases hlt : k < ps.length
    · obtain ⟨x, hx⟩ : ∃ x, ps[k]? = some x := ⟨ps[k], List.getElem?_eq_getElem hlt⟩
      have Hx := Lib.hid hx
      have HP := Lib.hid (P_of hx)
      have hxs := Hsz.out x (List.mem_of_getElem? hx)
      have hz : (k : Int) < ps.length := by omega
      have hcell : wr.cell? ⟨bk, o + k, none⟩ = some (.string x) := by
        rw [HB.out.cell (p := ⟨bk, o + k, none⟩) hbk]; exact Hc.out k x hx
      have cF := fold_any x wr hxs
      clear hx
      go_wp2_with fail
      refine cF.mono ?_
      rintro e w2 ⟨t, rfl, ht, hb2⟩
      have Ht : Hid (t.data.toList = foldL (P ps k)) := Lib.hid (by rw [ht, HP.out])
      have hts : t.size ≤ maxLen := by rw [Lib.size_eq, ht]; unfold foldL; rw [List.length_map, ← Lib.size_eq]; exact hxs
      have HO2 := Lib.hid (owns_below HO.out hb2)
      have HB2 := Lib.hid (HB.out.trans (hb2.mono HB.out.size))
      have hkey := keyOf_string_mk (k := 9) Tryd.underlying9 hts
      clear hb2 cF hcell
      rw [ht] at hkey
      rw [← HP.out] at hkey
      clear ht
      cases hh : has D (.string (foldL (P ps k)))
      · have HN2 := Lib.hid (HN.out.new HI.out hh)
        have HI2 := Lib.hid (HI.out.put HO.out.isMap)
        have Hh := Lib.hid hh
        clear hh
        go_wp2_with (first
          | (at_lookup; refine wpList_lookup_own_ok_int _ rfl _ _ 43 rfl 9 3 .i64 law Tryd.underlying43 Tryd.underlying3 (zero _) w.heap.size k D rfl HO2.out _ _ rfl hkey ?_; intro cL hat hwc; rw [Hh.out]; clear hat hwc)
          | (at_mapUpdate; refine wpList_mapUpdate_own _ rfl _ _ _ 43 rfl 9 3 law Tryd.underlying43 _ w.heap.size k _ rfl HO2.out (by unfold maxLen; omega) _ _ _ rfl rfl hkey _ [] (plainElem_int Tryd.underlying3 (WalkArith.wf_i64 (by omega))) ?_))
        intro w3 hown3 hgrow3
        have HO3 := Lib.hid hown3
        have HB3 := Lib.hid (HB2.out.grown hgrow3 HB2.out.size (fun j hj => by cases hj; exact Nat.le_refl _))
        clear hown3 hgrow3
        go_wp2
        go_roundw
        case rel => exact ⟨k + 1, by omega, by go_num, ⟨_, HO3.out, HI2.out⟩, HN2.out, HB3.out⟩
        case measure => simp [Go.RowKit.intOf]; omega
      · obtain ⟨i, hi, hat0, hfi⟩ := HI.out.yes _ hh
        have HI2 := Lib.hid (HI.out.keep hh)
        obtain ⟨y, hy⟩ : ∃ y, ps[i]? = some y := ⟨ps[i]'(by omega), List.getElem?_eq_getElem _⟩
        have HPy := Lib.hid (P_of hy)
        have hcy : w2.cell? ⟨bk, o + i, none⟩ = some (.string y) := by
          rw [HB2.out.cell (p := ⟨bk, o + i, none⟩) hbk]; exact Hc.out i y hy
        have hiz : (i : Int) < ps.length := by omega
        have Hfi := Lib.hid hfi
        have Hh := Lib.hid hh
        have Hat0 := Lib.hid hat0
        clear hh hy hfi hat0
        by_cases hxy : y.data.toList = x.data.toList
        · have hb : (y.toList == x.toList) = true := by rw [Lib.toList_data, Lib.toList_data, hxy]; simp
          have HN2 := Lib.hid (HN.out.same hi Hfi.out (by rw [HPy.out, HP.out, hxy]))
          clear hxy
          go_wp2_with (first
            | (at_lookup; refine wpList_lookup_own_ok_int _ rfl _ _ 43 rfl 9 3 .i64 law Tryd.underlying43 Tryd.underlying3 (zero _) w.heap.size k D rfl HO2.out _ _ rfl hkey ?_; intro cL hat hwc; rw [Hh.out]; rw [Hat0.out] at hat; injection hat with hat; injection hat with _ hat; subst hat; clear hwc))
          go_roundw
          case rel => exact ⟨k + 1, by omega, by go_num, ⟨D, HO2.out.mono (by omega), HI2.out⟩, HN2.out, HB2.out⟩
          case measure => simp [Go.RowKit.intOf]; omega
        · have hb : (y.toList == x.toList) = false := by rw [Lib.toList_data, Lib.toList_data]; simpa using hxy
          have HT : Hid (Told ps i k) := Lib.hid (.inr ⟨i, k, rfl, rfl, hi, hlt, Hfi.out, by rw [HPy.out, HP.out]; exact hxy⟩)
          clear hxy
          go_wp2_with (first
            | (at_lookup; refine wpList_lookup_own_ok_int _ rfl _ _ 43 rfl 9 3 .i64 law Tryd.underlying43 Tryd.underlying3 (zero _) w.heap.size k D rfl HO2.out _ _ rfl hkey ?_; intro cL hat hwc; rw [Hh.out]; rw [Hat0.out] at hat; injection hat with hat; injection hat with _ hat; subst hat; clear hwc))
          go_ret2
          exact ⟨_, _, rfl, HT.out, HB2.out⟩
    · have hz : ¬ (k : Int) < ps.length := by omega
      have HT : Hid (Told ps (-1) (-1)) := Lib.hid (.inl ⟨rfl, rfl, by have e : k = ps.length := by omega
                                                                       rw [← e]; exact HN.out⟩)
      go_wp2
      go_ret2
      exact ⟨_, _, rfl, HT.out, HB.out⟩
end NK
end Go.Proofs.YtnikenhfpgoaoaaDoor
