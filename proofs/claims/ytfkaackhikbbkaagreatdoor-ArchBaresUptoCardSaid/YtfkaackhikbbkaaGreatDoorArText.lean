/- Layer 9: the contracts of the writer's texts, numbers, and of (*strings.Builder).String of an embedded builder. -/
import Derived.Test.YtfkaackhikbbkaaGreatDoorMg1
import Derived.Test.YtfkaackhikbbkaaGreatDoorMg2
import Derived.Test.YtfkaackhikbbkaaGreatDoorArBuild
import Derived.Test.YtfkaackhikbbkaaGreatDoorArWrt
import Derived.WalkKit
import Derived.BigRegion
import Derived.BigQuiet
import Derived.Lib.UnsafeStr
namespace Go.Proofs.YtfkaackhikbbkaaGreatDoor
open Go.RowKit Go.Lib
namespace AW
open CP CR AP GB

/-- The bytes that a builder holds. -/
abbrev Has (B b : Nat) (l : List UInt8) (w : World) : Prop := Is B b (Lib.byteCells l) w
theorem grown_below {w w' : World} (hb : Below w.heap.size w w') : w.grownBy w' none := ⟨hb.os, hb.tape, hb.output, hb.size, fun k hk _ => hb.block k hk⟩
theorem At.below {B b : Nat} {p : Value} {bs : List Value} {w w' : World} (h : GB.At B b p bs w) (hb : Below w.heap.size w w') : GB.At B b p bs w' := by
  have hlt := h.lt
  obtain ⟨hB, v, hbk, hown, hne⟩ := h
  exact ⟨hB, v, (hb.block _ hlt).trans hbk, hown.kept (grown_below hb) (by cases hv : v.ownBlock <;> simp), hne⟩
theorem Is.below {B b : Nat} {bs : List Value} {w w' : World} (h : GB.Is B b bs w) (hb : Below w.heap.size w w') : GB.Is B b bs w' := h.elim (fun x => .inl (At.below x hb)) (fun x => .inr (At.below x hb))
theorem Is.lt {B b : Nat} {bs : List Value} {w : World} (h : GB.Is B b bs w) : b < w.heap.size := h.elim (fun x => x.lt) (fun x => x.lt)
theorem Is.drew {B b : Nat} {bs : List Value} {w : World} (h : GB.Is B b bs w) : GB.Is B b bs w.drew := h
/-- What a call of the writer does. -/
structure Wrote (B b : Nat) (l : List UInt8) (w w' : World) : Prop where
  has : Has B b l w'
  below : Below B w w'
  kept : OthersKept 5 (some b) w w'
def WPost (B b : Nat) (l : List UInt8) (w : World) (r : Ending) (w' : World) : Prop := r = .returned (.tuple #[]) ∧ Wrote B b l w w'
/-- A block that no writer turns. -/
theorem kept_row {b g : Nat} {w w' : World} {cs : Array Value} {t : TypeId} {fz : Nat × Nat} (h : OthersKept 5 (some b) w w') (hg : w.heap[g]? = some (.cells cs t fz)) (ht : t ≠ 5) (hb : g ≠ b) : w'.heap[g]? = some (.cells cs t fz) :=
  h g _ hg (by simpa using hb) (fun c f e => by injection e with _ e2; exact ht e2)
theorem kept_below {b : Nat} {w w' : World} (h : Below w.heap.size w w') : OthersKept 5 (some b) w w' := fun k _ hk _ _ => (h.block k (Array.getElem?_eq_some_iff.1 hk).1).trans hk
theorem is_kind {B b : Nat} {bs : List Value} {w : World} (h : GB.Is B b bs w) : ∃ cs fz, w.heap[b]? = some (.cells cs 61 fz) := by
  rcases h with ⟨_, v, hbk, _⟩ | ⟨_, v, hbk, _⟩
  · exact ⟨_, _, hbk⟩
  · exact ⟨_, _, hbk⟩
theorem kind_ne {B b g : Nat} {bs : List Value} {w : World} {cs : Array Value} {t : TypeId} {fz : Nat × Nat} (h : GB.Is B b bs w) (hg : w.heap[g]? = some (.cells cs t fz)) (ht : t ≠ 61) : g ≠ b := by
  rintro rfl
  obtain ⟨cs', fz', h'⟩ := is_kind h
  rw [hg] at h'
  injection h' with h'
  injection h' with _ e
  exact ht e
theorem flat_snoc {α : Type} (f : α → List UInt8) {l : List α} {k : Nat} {x : α} (h : l[k]? = some x) : (l.take (k + 1)).flatMap f = (l.take k).flatMap f ++ f x := by
  rw [List.take_add_one, h, Option.toList_some, List.flatMap_append]
  simp
theorem txt_bytes (l : List UInt8) : (⟨l.toArray⟩ : ByteArray).data.toList = l := by simp
def TInv (B b : Nat) (l : List UInt8) (ls : List (List UInt8)) (w : World) (s : Value) (wr : World) : Prop :=
  ∃ k : Nat, s = .int .i64 k ∧ k ≤ ls.length ∧ Wrote B b (l ++ (ls.take k).flatMap textS) w wr
set_option maxRecDepth 100000 in
set_option maxHeartbeats 3200000 in
theorem texts_any (B b g c : Nat) (l : List UInt8) (ls : List (List UInt8)) (cs : Array Value) (fz : Nat × Nat) (w : World) (h : Has B b l w) (hBw : B ≤ w.heap.size) (hrow : w.heap[g]? = some (.cells cs 9 fz))
    (hcs : ∀ (j : Nat) t, ls[j]? = some t → cs[j]? = some (.string ⟨t.toArray⟩)) (hlen : ls.length ≤ 1000) (hsm : ∀ t ∈ ls, t.length ≤ 1000000) (htot : l.length ≤ 10000000) :
    Calls Tryz.prog 67 #[.pointer (some ⟨b, 0, none⟩), .slice (some ⟨g, 0, none⟩) ls.length c] w (WPost B b (l ++ ls.flatMap textS) w) := by
  have hgb : g ≠ b := kind_ne h hrow (by decide)
  have hB0 : B ≤ b := by rcases h with ⟨h, _⟩ | ⟨h, _⟩ <;> exact h
  have HTot : Hid (∀ k, k ≤ ls.length → ((ls.take k).flatMap textS).length ≤ 1000100 * 1000) := Lib.hid (fun k hk => by
    have : ∀ m : List (List UInt8), (∀ t ∈ m, t.length ≤ 1000000) → (m.flatMap textS).length ≤ 1000100 * m.length := by
      intro m
      induction m with
      | nil => intro _; simp
      | cons t m ih =>
        intro hm
        have h1 := ih (fun x hx => hm x (List.mem_cons_of_mem _ hx))
        have h2 := hm t (List.mem_cons_self ..)
        have h3 := nm_len9 (n := t.length) (by omega)
        have h4 : (textS t).length = (nm t.length).length + t.length := by unfold textS; rw [List.length_append]
        rw [List.flatMap_cons, List.length_append, List.length_cons, h4]
        omega
    have h1 := this (ls.take k) (fun t ht => hsm t (List.mem_of_mem_take ht))
    have h2 : (ls.take k).length ≤ 1000 := by rw [List.length_take]; omega
    omega)
  have HH := Lib.hid h
  have HCs := Lib.hid hcs
  have HRow := Lib.hid hrow
  have HSm := Lib.hid hsm
  have HI : Hid (TInv B b l ls w (.int .i64 0) w) := Lib.hid ⟨0, rfl, Nat.zero_le _, ⟨by simpa using h, Below.refl _ _, OthersKept.refl _ _ _⟩⟩
  obtain ⟨n, hn⟩ : ∃ n, ls.length = n := ⟨_, rfl⟩
  have HN := Lib.hid hn
  rw [hn] at hlen ⊢
  have hnz : (n : Int) ≤ 1000 := by omega
  clear h hcs hrow hsm hn
  go_enter Tryz.func67, Tryz.ntmps67
  repeat (first | go_skip | go_guarded | go_step | go_upon)
  go_loopw [8] (fun s8 wr => TInv B b l ls w s8 wr) (fun s8 _ => n - (Go.RowKit.intOf s8).toNat)
  case atStart => exact HI.out
  case round =>
    obtain ⟨k, rfl, hk, hw⟩ := hrel
    have HW := Lib.hid hw
    rw [HN.out] at hk
    have hsz : w.heap.size ≤ wr.heap.size := hw.below.size
    have hrow2 := kept_row hw.kept HRow.out (by decide) hgb
    clear hw
    by_cases hlt : k < n
    · have hkz : (k : Int) < n := by omega
      obtain ⟨t, ht⟩ : ∃ t, ls[k]? = some t := ⟨ls[k]'(by rw [HN.out]; exact hlt), List.getElem?_eq_getElem _⟩
      have HT := Lib.hid ht
      obtain ⟨S, hS⟩ : ∃ S : ByteArray, ⟨t.toArray⟩ = S := ⟨_, rfl⟩
      have hSd : S.data.toList = t := by rw [← hS]
      have c0 : wr.cell? ⟨g, k, none⟩ = some (.string S) := by rw [cell_of_row wr g k _ _ _ hrow2, HCs.out k t ht, hS]
      have hSl : S.size ≤ 1000000 := by rw [Lib.size_eq, hSd]; exact HSm.out t (List.mem_of_getElem? ht)
      have hn9 := nm_len9 (n := S.size) (by omega)
      have CT := Lib.hid (fun W => text_wr S W (by unfold maxLen; omega))
      rw [hSd] at CT
      have HTx : Hid ((textS t).length ≤ 1000010) := Lib.hid (by
        have h1 := HSm.out t (List.mem_of_getElem? ht)
        have h2 := nm_len9 (n := t.length) (by omega)
        unfold textS
        rw [List.length_append]
        omega)
      clear hS hSd ht hrow2 hn9 hSl
      repeat (first | go_skip | go_guarded | go_step | go_upon)
      refine wp_region_noPanic ?_
      with_reducible refine QT.region_pick (S := fun _ => True) [0, 1, 2, 3] [4] 5 (by kernel_rfl) (by kernel_rfl) ?_ ?_ ?_
      · exact fun _ _ _ _ _ h => h
      · trivial
      intro _
      simp only [QT.pick, List.filterMap_cons, List.filterMap_nil, List.getElem?_cons_succ, List.getElem?_cons_zero, List.drop_succ_cons, List.drop_zero]
      iterate 4 (refine QT.wpTake_cons _ (by rfl) (by intro w' hSw; go_simp; first | done | rfl) ?_; try simp only [Act.put, List.setIfInBounds_toArray, List.set_cons_zero, List.set_cons_succ])
      refine QT.wpTake_nil ?_
      intro K' hK
      rw [if_pos (by rfl)]
      go_simp
      refine (CT.out wr.drew).mono ?_
      rintro r W1 ⟨T, rfl, hT, hb1⟩
      simp only []
      refine hK.out _ _ trivial ?_
      clear hK K'
      refine QT.wpDo_nil ?_
      try simp only [Act.put, List.setIfInBounds_toArray, List.set_cons_zero, List.set_cons_succ]
      have hb1' : Below wr.heap.size wr W1 := ⟨hb1.os, hb1.tape, hb1.output, hb1.size, hb1.block⟩
      have HTk := HTot.out k (by rw [HN.out]; omega)
      have hTl : T.size ≤ 1000010 := by rw [Lib.size_eq, hT]; exact HTx.out
      have CS := Lib.hid (str_any B b _ T W1 (Is.below HW.out.has hb1') (by rw [Lib.byteCells_length, List.length_append]; omega) (by have := hb1'.size; omega))
      have HB1 := Lib.hid hb1'
      have HTd := Lib.hid hT
      clear hb1 hb1' hT
      repeat (first | (go_at_call 97; refine CS.out.mono ?_; rintro r W2 ⟨rfl, hi, hb2, hk2⟩; simp only []; have HI2 := Lib.hid hi; have HB2 := Lib.hid hb2; have HK2 := Lib.hid hk2; clear hi hb2 hk2) | go_skip | go_guarded | go_step | go_upon)
      refine NoPanic.normal ?_
      repeat (first | go_skip | go_guarded | go_step | go_upon)
      refine ⟨⟨k + 1, by go_num, by rw [HN.out]; omega, ?_, ?_, ?_⟩, by simp [Go.RowKit.intOf]; omega⟩
      · have e : Lib.byteCells (l ++ (ls.take (k + 1)).flatMap textS) = Lib.byteCells (l ++ (ls.take k).flatMap textS) ++ Lib.strCells T := by
          rw [flat_snoc textS HT.out, Lib.strCells_eq, HTd.out, ← List.append_assoc, Lib.byteCells_append]
        show GB.Is B b _ _
        rw [e]
        exact HI2.out
      · exact HW.out.below.trans ((HB1.out.mono (by omega)).trans HB2.out)
      · exact HW.out.kept.trans ((kept_below HB1.out).trans HK2.out)
    · have hkz : ¬ (k : Int) < n := by omega
      have hkn : k = n := by omega
      subst hkn
      clear hlt
      repeat (first | go_skip | go_guarded | go_step | go_upon)
      go_end0
      refine ⟨rfl, ?_⟩
      have := HW.out
      rw [List.take_of_length_le (by rw [HN.out]; exact Nat.le_refl _)] at this
      exact this
def NInv (B b : Nat) (l : List UInt8) (ls : List Int) (w : World) (s : Value) (wr : World) : Prop :=
  ∃ k : Nat, s = .int .i64 k ∧ k ≤ ls.length ∧ Wrote B b (l ++ (ls.take k).flatMap numS) w wr
set_option maxRecDepth 100000 in
set_option maxHeartbeats 3200000 in
theorem numbers_any (B b g c : Nat) (l : List UInt8) (ls : List Int) (cs : Array Value) (fz : Nat × Nat) (w : World) (h : Has B b l w) (hBw : B ≤ w.heap.size) (hrow : w.heap[g]? = some (.cells cs 3 fz))
    (hcs : ∀ (j : Nat) t, ls[j]? = some t → cs[j]? = some (.int .i64 t)) (hlen : ls.length ≤ 1000) (hsm : ∀ t ∈ ls, 0 ≤ t ∧ t < 9223372036854775808) (htot : l.length ≤ 10000000) :
    Calls Tryz.prog 68 #[.pointer (some ⟨b, 0, none⟩), .slice (some ⟨g, 0, none⟩) ls.length c] w (WPost B b (l ++ ls.flatMap numS) w) := by
  have hgb : g ≠ b := kind_ne h hrow (by decide)
  have hB0 : B ≤ b := by rcases h with ⟨h, _⟩ | ⟨h, _⟩ <;> exact h
  have HTot : Hid (∀ k, k ≤ ls.length → ((ls.take k).flatMap numS).length ≤ 1000100 * 1000) := Lib.hid (fun k hk => by
    have : ∀ m : List Int, (∀ t ∈ m, 0 ≤ t ∧ t < 9223372036854775808) → (m.flatMap numS).length ≤ 1000100 * m.length := by
      intro m
      induction m with
      | nil => intro _; simp
      | cons t m ih =>
        intro hm
        have h1 := ih (fun x hx => hm x (List.mem_cons_of_mem _ hx))
        have h2 := hm t (List.mem_cons_self ..)
        have h3 := nm_len9 (n := t.toNat) (by omega)
        rw [List.flatMap_cons, List.length_append, List.length_cons, numS_nat h2.1]
        omega
    have h1 := this (ls.take k) (fun t ht => hsm t (List.mem_of_mem_take ht))
    have h2 : (ls.take k).length ≤ 1000 := by rw [List.length_take]; omega
    omega)
  have HH := Lib.hid h
  have HCs := Lib.hid hcs
  have HRow := Lib.hid hrow
  have HSm := Lib.hid hsm
  have HI : Hid (NInv B b l ls w (.int .i64 0) w) := Lib.hid ⟨0, rfl, Nat.zero_le _, ⟨by simpa using h, Below.refl _ _, OthersKept.refl _ _ _⟩⟩
  obtain ⟨n, hn⟩ : ∃ n, ls.length = n := ⟨_, rfl⟩
  have HN := Lib.hid hn
  rw [hn] at hlen ⊢
  have hnz : (n : Int) ≤ 1000 := by omega
  clear h hcs hrow hsm hn
  go_enter Tryz.func68, Tryz.ntmps68
  repeat (first | go_skip | go_guarded | go_step | go_upon)
  go_loopw [8] (fun s8 wr => NInv B b l ls w s8 wr) (fun s8 _ => n - (Go.RowKit.intOf s8).toNat)
  case atStart => exact HI.out
  case round =>
    obtain ⟨k, rfl, hk, hw⟩ := hrel
    have HW := Lib.hid hw
    rw [HN.out] at hk
    have hsz : w.heap.size ≤ wr.heap.size := hw.below.size
    have hrow2 := kept_row hw.kept HRow.out (by decide) hgb
    clear hw
    by_cases hlt : k < n
    · have hkz : (k : Int) < n := by omega
      obtain ⟨t, ht⟩ : ∃ t, ls[k]? = some t := ⟨ls[k]'(by rw [HN.out]; exact hlt), List.getElem?_eq_getElem _⟩
      have HT := Lib.hid ht
      have c0 : wr.cell? ⟨g, k, none⟩ = some (.int .i64 t) := by rw [cell_of_row wr g k _ _ _ hrow2, HCs.out k t ht]
      obtain ⟨t0, t1⟩ := HSm.out t (List.mem_of_getElem? ht)
      have CT : Hid (∀ W, Calls Tryz.prog 99 #[.int .i64 t] W (NumPost (numS t) W)) := Lib.hid (fun W => by
        have := num_nat t.toNat W (by omega)
        rw [Int.toNat_of_nonneg t0, ← numS_nat t0] at this
        exact this)
      have HTx : Hid ((numS t).length ≤ 1000010) := Lib.hid (by
        have h2 := nm_len9 (n := t.toNat) (by omega)
        rw [numS_nat t0]
        omega)
      clear ht hrow2 t0 t1
      repeat (first | go_skip | go_guarded | go_step | go_upon)
      refine wp_region_noPanic ?_
      with_reducible refine QT.region_pick (S := fun _ => True) [0, 1, 2, 3] [4] 5 (by kernel_rfl) (by kernel_rfl) ?_ ?_ ?_
      · exact fun _ _ _ _ _ h => h
      · trivial
      intro _
      simp only [QT.pick, List.filterMap_cons, List.filterMap_nil, List.getElem?_cons_succ, List.getElem?_cons_zero, List.drop_succ_cons, List.drop_zero]
      iterate 4 (refine QT.wpTake_cons _ (by rfl) (by intro w' hSw; go_simp; first | done | rfl) ?_; try simp only [Act.put, List.setIfInBounds_toArray, List.set_cons_zero, List.set_cons_succ])
      refine QT.wpTake_nil ?_
      intro K' hK
      rw [if_pos (by rfl)]
      go_simp
      refine (CT.out wr.drew).mono ?_
      rintro r W1 ⟨T, rfl, hT, hb1⟩
      simp only []
      refine hK.out _ _ trivial ?_
      clear hK K'
      refine QT.wpDo_nil ?_
      try simp only [Act.put, List.setIfInBounds_toArray, List.set_cons_zero, List.set_cons_succ]
      have hb1' : Below wr.heap.size wr W1 := ⟨hb1.os, hb1.tape, hb1.output, hb1.size, hb1.block⟩
      have HTk := HTot.out k (by rw [HN.out]; omega)
      have hTl : T.size ≤ 1000010 := by rw [Lib.size_eq, hT]; exact HTx.out
      have CS := Lib.hid (str_any B b _ T W1 (Is.below HW.out.has hb1') (by rw [Lib.byteCells_length, List.length_append]; omega) (by have := hb1'.size; omega))
      have HB1 := Lib.hid hb1'
      have HTd := Lib.hid hT
      clear hb1 hb1' hT
      repeat (first | (go_at_call 97; refine CS.out.mono ?_; rintro r W2 ⟨rfl, hi, hb2, hk2⟩; simp only []; have HI2 := Lib.hid hi; have HB2 := Lib.hid hb2; have HK2 := Lib.hid hk2; clear hi hb2 hk2) | go_skip | go_guarded | go_step | go_upon)
      refine NoPanic.normal ?_
      repeat (first | go_skip | go_guarded | go_step | go_upon)
      refine ⟨⟨k + 1, by go_num, by rw [HN.out]; omega, ?_, ?_, ?_⟩, by simp [Go.RowKit.intOf]; omega⟩
      · have e : Lib.byteCells (l ++ (ls.take (k + 1)).flatMap numS) = Lib.byteCells (l ++ (ls.take k).flatMap numS) ++ Lib.strCells T := by
          rw [flat_snoc numS HT.out, Lib.strCells_eq, HTd.out, ← List.append_assoc, Lib.byteCells_append]
        show GB.Is B b _ _
        rw [e]
        exact HI2.out
      · exact HW.out.below.trans ((HB1.out.mono (by omega)).trans HB2.out)
      · exact HW.out.kept.trans ((kept_below HB1.out).trans HK2.out)
    · have hkz : ¬ (k : Int) < n := by omega
      have hkn : k = n := by omega
      subst hkn
      clear hlt
      repeat (first | go_skip | go_guarded | go_step | go_upon)
      go_end0
      refine ⟨rfl, ?_⟩
      have := HW.out
      rw [List.take_of_length_le (by rw [HN.out]; exact Nat.le_refl _)] at this
      exact this
end AW
end Go.Proofs.YtfkaackhikbbkaaGreatDoor
