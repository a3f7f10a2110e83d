/- Layer 14: find: the number of the first block that matches. -/
import Derived.Test.YtmpmmebmhffaeaaDoorQDlKnow
set_option linter.all false
set_option maxRecDepth 100000
set_option maxHeartbeats 25600000
namespace Go.Proofs.YtmpmmebmhffaeaaDoor
open Go.RowKit Go.Lib Go.BigFrame Go.Maps
namespace DM
open OM DL HP HS

theorem out_len (v : HS.St) : (outL v).length = 32 := by
  obtain ⟨a, b, c, d, e, f, g, h⟩ := v
  rfl
theorem sha_len (l : List UInt8) : (shaL l).length = 32 := out_len _
def numB : Option Nat → Int
  | some i => (i : Nat)
  | none => -1
def ansV (t : ByteArray) (i : Int) : Value := .agg #[.string t, .int .i64 i]
/-- What was looked for last, under each weak sum and length. -/
structure LastOk (bs : List Bk) (f : Value → Option Value) : Prop where
  has : ∀ k n, (f (wkV k n)).isSome = true ↔ ∃ b ∈ bs, b.1 = k ∧ b.2.2 = n
  val : ∀ k n v, f (wkV k n) = some v → ∃ t i, v = ansV t i ∧ (t.size = 0 ∨ i = numB (findB bs (k, shaL t.data.toList, n)))
theorem KnowOk.last {bs : List Bk} {f : Value → Option Value} (h : KnowOk bs f) : LastOk bs f := ⟨h.has, fun k n v hv => ⟨⟨#[]⟩, -1, h.val k n v hv, .inl rfl⟩⟩
theorem LastOk.put {bs : List Bk} {f : Value → Option Value} (h : LastOk bs f) {k : Nat} {n : Int} (hs : (f (wkV k n)).isSome = true) (t : ByteArray) : LastOk bs (putF f (wkV k n) (ansV t (numB (findB bs (k, shaL t.data.toList, n))))) := by
  constructor
  · intro k' n'
    by_cases e : wkV k' n' = wkV k n
    · rw [e, putF_same]
      obtain ⟨rfl, rfl⟩ := wkV_inj e
      exact ⟨fun _ => (h.has k' n').1 hs, fun _ => rfl⟩
    · rw [putF_other _ _ e]
      exact h.has k' n'
  · intro k' n' v hv
    by_cases e : wkV k' n' = wkV k n
    · rw [e, putF_same] at hv
      obtain ⟨rfl, rfl⟩ := wkV_inj e
      injection hv with hv
      exact ⟨t, _, hv.symm, .inr rfl⟩
    · rw [putF_other _ _ e] at hv
      exact h.val k' n' v hv
theorem LastOk.none {bs : List Bk} {f : Value → Option Value} (h : LastOk bs f) {k : Nat} {n : Int} (hs : f (wkV k n) = none) (x : List UInt8) : findB bs (k, x, n) = Option.none := by
  cases hf : findB bs (k, x, n) with
  | none => rfl
  | some i =>
    have := (h.has k n).2 ⟨_, List.mem_of_getElem? (findB_at hf), rfl, rfl⟩
    rw [hs] at this
    cases this
theorem row2 {W : World} {B : Nat} {x y : Value} {T : TypeId} (h : W.heap[B]? = some (.cells #[x, y] T (0, 0))) : W.cell? ⟨B, 0, Option.none⟩ = some x ∧ W.cell? ⟨B, 1, Option.none⟩ = some y ∧ ∀ j, W.frozen? ⟨B, j, Option.none⟩ = false := by
  refine ⟨by simp [World.cell?, h], by simp [World.cell?, h], fun j => Lib.frozen_of_heap h j⟩
theorem row_keep {W W' : World} {B : Nat} {o : Obj} (h : W.heap[B]? = some o) (hb : Below W.heap.size W W') : W'.heap[B]? = some o := (hb.block B (Array.getElem?_eq_some_iff.1 h).1).trans h
theorem str_eqB (t s : ByteArray) : (t.toList == s.toList) = decide (t = s) := by
  rw [Lib.toList_data, Lib.toList_data]
  by_cases e : t = s
  · rw [e]; simp
  · rw [decide_eq_false e]
    apply beq_false_of_ne
    intro h
    exact e (by rw [← Lib.mk_data t, ← Lib.mk_data s, h])
/-- What find leaves. -/
def FdPost (bs : List Bk) (s : ByteArray) (b1 m : Nat) (w : World) (r : Ending) (w' : World) : Prop :=
  ∃ f', r = .returned (.int .i64 (numB (findB bs (tellB s.data.toList)))) ∧ MapW w' b1 (m + 1) f' ∧ LastOk bs f' ∧ FP.Out (fun j => j = b1) w w'
set_option maxRecDepth 100000 in
set_option maxHeartbeats 6400000 in
theorem find_any (bs : List Bk) (s : ByteArray) (b1 b2 m n2 : Nat) (f : Value → Option Value) (w : World) (he : HQ.Env w) (hW : MapW w b1 m f) (hf : LastOk bs f) (hB : MapB w b2 n2 (firstF bs)) (hne : b1 ≠ b2) (h1 : 1 ≤ s.size) (h2 : s.size ≤ 1048576) (hm : m < maxLen) :
    Calls Tryd.prog 36 #[.agg #[.map (some b1), .map (some b2)], .string s, .int .u32 (weakL s.data.toList : Nat)] w (FdPost bs s b1 m w) := by
  have hkl := weak_lt s.data.toList
  have HT : Hid (tellB s.data.toList = (weakL s.data.toList, shaL s.data.toList, (s.size : Int))) := Lib.hid (by unfold tellB; rw [size_data])
  unfold FdPost
  rw [HT.out]
  obtain ⟨k, hk⟩ : ∃ k, weakL s.data.toList = k := ⟨_, rfl⟩
  rw [hk] at hkl HT ⊢
  have hsz : (s.size : Int) ≤ 1048576 := by omega
  obtain ⟨wl, hwl⟩ := keyW k (s.size : Int) hkl (by omega) (by omega)
  have HB1 := Lib.hid (hW.lt)
  have HE := Lib.hid he
  have HM := Lib.hid hB
  have HF := Lib.hid hf
  have hA := (hW.alloc (.cells #[.map (some b1), .map (some b2)] 64)).alloc (.cells #[.int .u32 (k : Nat), .int .i64 s.size] 90)
  have hl := hA.look_ok lawW Tryd.underlying61 (zeroA _) hwl
  have HA := Lib.hid hA
  have HO1 : Hid (FP.Out (fun j => j = b1) w ((w.alloc (.cells #[.map (some b1), .map (some b2)] 64)).alloc (.cells #[.int .u32 (k : Nat), .int .i64 s.size] 90))) := Lib.hid (((FP.Out.refl (fun j => j = b1) w).alloc _).alloc _)
  have R0 : Hid (((w.alloc (.cells #[.map (some b1), .map (some b2)] 64)).alloc (.cells #[.int .u32 (k : Nat), .int .i64 s.size] 90)).heap[w.heap.size]? = some (.cells #[.map (some b1), .map (some b2)] 64 (0, 0))) := Lib.hid (row_keep (heap_alloc_new w _) ((Below.refl _ _).alloc (Nat.le_refl _) _))
  have R1 : Hid (((w.alloc (.cells #[.map (some b1), .map (some b2)] 64)).alloc (.cells #[.int .u32 (k : Nat), .int .i64 s.size] 90)).heap[w.heap.size + 1]? = some (.cells #[.int .u32 (k : Nat), .int .i64 s.size] 90 (0, 0))) := Lib.hid (by
    have := heap_alloc_new (w.alloc (.cells #[.map (some b1), .map (some b2)] 64)) (.cells #[.int .u32 (k : Nat), .int .i64 s.size] 90)
    rw [World.size_alloc] at this
    exact this)
  have hwl2 : keyOf Tryd.prog 90 (.agg #[.int .u32 (k : Nat), .int .i64 s.size]) = some wl := hwl
  obtain ⟨q, hq⟩ : ∃ q, f (wkV k s.size) = q := ⟨_, rfl⟩
  rw [hq] at hl
  unfold wkV at hl
  clear hW he hf hB hA hwl hk
  cases q with
  | none =>
    simp only [Option.getD_none, Option.isSome_none] at hl
    have HN := Lib.hid (HF.out.none hq (shaL s.data.toList))
    clear hq
    go_enter Tryd.func36, Tryd.ntmps36
    repeat (first | go_skip | go_guarded | go_step | go_upon)
    go_ret
    exact ⟨f, by rw [HN.out]; rfl, (HA.out.alloc _).mono (Nat.le_succ _), HF.out, HO1.out.alloc _⟩
  | some v =>
    obtain ⟨t, i, rfl, hti⟩ := HF.out.val _ _ _ hq
    have HQs : Hid ((f (wkV k s.size)).isSome = true) := Lib.hid (by rw [hq]; rfl)
    unfold ansV at hl
    simp only [Option.getD_some, Option.isSome_some] at hl
    clear hq
    by_cases ht : t = s
    · subst ht
      have HI : Hid (i = numB (findB bs (k, shaL t.data.toList, (t.size : Int)))) := Lib.hid (by
        rcases hti with h | h
        · omega
        · exact h)
      clear hti
      go_enter Tryd.func36, Tryd.ntmps36
      repeat (first | go_skip | go_guarded | go_step | go_upon)
      go_ret
      exact ⟨f, by rw [HI.out]; rfl, (HA.out.alloc _).mono (Nat.le_succ _), HF.out, HO1.out.alloc _⟩
    · have hEq : (t.toList == s.toList) = false := by rw [str_eqB, decide_eq_false ht]
      clear hti ht
      go_enter Tryd.func36, Tryd.ntmps36
      repeat (first | go_skip | go_guarded | go_step | go_upon)
      have RA : Hid ((((w.alloc (.cells #[.map (some b1), .map (some b2)] 64)).alloc (.cells #[.int .u32 (k : Nat), .int .i64 s.size] 90)).alloc (.cells #[.string t, .int .i64 i] 88)).heap[w.heap.size]? = some (.cells #[.map (some b1), .map (some b2)] 64 (0, 0))) := Lib.hid (row_keep R0.out ((Below.refl _ _).alloc (Nat.le_refl _) _))
      have RB : Hid ((((w.alloc (.cells #[.map (some b1), .map (some b2)] 64)).alloc (.cells #[.int .u32 (k : Nat), .int .i64 s.size] 90)).alloc (.cells #[.string t, .int .i64 i] 88)).heap[w.heap.size + 1]? = some (.cells #[.int .u32 (k : Nat), .int .i64 s.size] 90 (0, 0))) := Lib.hid (row_keep R1.out ((Below.refl _ _).alloc (Nat.le_refl _) _))
      have HA2 := Lib.hid (HA.out.alloc (.cells #[.string t, .int .i64 i] 88))
      have HO2 := Lib.hid (HO1.out.alloc (.cells #[.string t, .int .i64 i] 88))
      have HM2 := Lib.hid (((HM.out.alloc (.cells #[.map (some b1), .map (some b2)] 64)).alloc (.cells #[.int .u32 (k : Nat), .int .i64 s.size] 90)).alloc (.cells #[.string t, .int .i64 i] 88))
      have HE2 : Hid (HQ.Env (((w.alloc (.cells #[.map (some b1), .map (some b2)] 64)).alloc (.cells #[.int .u32 (k : Nat), .int .i64 s.size] 90)).alloc (.cells #[.string t, .int .i64 i] 88))) := Lib.hid (HE.out.below ((((Below.refl w.heap.size w).alloc (Nat.le_refl _) _).alloc (by rw [World.size_alloc]; omega) _).alloc (by rw [World.size_alloc, World.size_alloc]; omega) _))
      generalize ((w.alloc (.cells #[.map (some b1), .map (some b2)] 64)).alloc (.cells #[.int .u32 (k : Nat), .int .i64 s.size] 90)).alloc (.cells #[.string t, .int .i64 i] 88) = wc at RA RB HA2 HO2 HM2 HE2 ⊢
      obtain ⟨kb, hkb⟩ := keyB (k, shaL s.data.toList, (s.size : Int)) hkl (by rw [sha_len]; decide) (by simp only; omega) (by simp only; omega)
      obtain ⟨H, hH⟩ : ∃ H : ByteArray, ⟨(shaL s.data.toList).toArray⟩ = H := ⟨_, rfl⟩
      have CS : Hid (∀ W, Below wc.heap.size wc W → Calls Tryd.prog 31 #[.string s] W fun r w' => r = .returned (.string H) ∧ Below W.heap.size W w') := Lib.hid (fun W hW => by
        have := HQ.sum_any s W (HE2.out.below hW) (by omega)
        rw [hH] at this
        exact this)
      obtain ⟨fb, hfb⟩ : ∃ fb, findB bs (k, shaL s.data.toList, (s.size : Int)) = fb := ⟨_, rfl⟩
      have HL8 : Hid (∀ W, MapB W b2 n2 (firstF bs) → (Instr.lookup 62 (.map (some b2)) (.agg #[.int .u32 (k : Nat), .string H, .int .i64 s.size]) true).run Tryd.prog W = .ok (.tuple #[(fb.map fun i => Value.int .i64 (i : Nat)).getD (.int .i64 0), .bool (fb.map fun i => Value.int .i64 (i : Nat)).isSome]) W) := Lib.hid (fun W hW => by
        have := hW.look_ok lawB Tryd.underlying62 (zeroI _) hkb
        unfold firstF at this
        rw [firstN_bk, hfb] at this
        unfold bkV at this
        simp only at this
        rw [hH] at this
        exact this)
      have HP : Hid (LastOk bs (putF f (.agg #[.int .u32 (k : Nat), .int .i64 s.size]) (.agg #[.string s, .int .i64 (numB fb)]))) := Lib.hid (by
        have := HF.out.put HQs.out s
        rw [hfb] at this
        exact this)
      have HFB := Lib.hid hfb
      clear hkb hH hfb hEq hl
      obtain ⟨a0, a1, -⟩ := row2 RA.out
      refine wp_region_noPanic ?_
      with_reducible refine QT.region_mix (S := fun W' => W'.heap[w.heap.size]? = some (.cells #[.map (some b1), .map (some b2)] 64 (0, 0)) ∧ MapB W' b2 n2 (firstF bs)) [(true, 0), (true, 1), (true, 2), (true, 3), (true, 5), (true, 6), (false, 4), (true, 7), (true, 8), (true, 9), (true, 10), (true, 11), (true, 12)] 13 (by kernel_rfl) (by kernel_rfl) ?_ ?_ ?_
      · exact fun _ _ _ _ _ h => h
      · exact ⟨RA.out, HM2.out.row rfl⟩
      intro _
      simp only [QT.pickM, List.filterMap_cons, List.filterMap_nil, List.getElem?_cons_succ, List.getElem?_cons_zero, Option.map_some, List.drop_succ_cons, List.drop_zero]
      clear a0 a1
      iterate 6 (refine QT.wpMix_take _ (by rfl) (by intro w' hSw; obtain ⟨x0, x1, -⟩ := row2 hSw.1; go_simp; first | done | rfl) ?_; try simp only [Act.put, List.setIfInBounds_toArray, List.set_cons_zero, List.set_cons_succ])
      intro K' hK
      rw [if_pos (by rfl)]
      go_simp
      refine (CS.out _ (Below.refl _ _).drew).mono ?_
      rintro r w3 ⟨rfl, hb3⟩
      simp only []
      have hb3 : Below wc.heap.size wc w3 := (Below.refl _ _).drew.trans hb3
      have RB3 := Lib.hid (row_keep RB.out hb3)
      have RA3 := Lib.hid (row_keep RA.out hb3)
      have HA3 := Lib.hid (HA2.out.below hb3)
      have HO3 := Lib.hid (HO2.out.thenBelow hb3)
      have HM3 := Lib.hid (HM2.out.below hb3)
      refine hK.out _ _ ⟨RA3.out, HM3.out⟩ ?_
      clear hK K' hb3
      try simp only [Act.put, List.setIfInBounds_toArray, List.set_cons_zero, List.set_cons_succ]
      refine QT.wpMix_take _ (by rfl) (by intro w' hSw; go_simp; first | done | rfl) ?_
      try simp only [Act.put, List.setIfInBounds_toArray, List.set_cons_zero, List.set_cons_succ]
      refine QT.wpMix_take _ (by rfl) (by intro w' hSw; have hl := HL8.out w' hSw.2; go_simp; first | done | rfl) ?_
      try simp only [Act.put, List.setIfInBounds_toArray, List.set_cons_zero, List.set_cons_succ]
      iterate 4 (refine QT.wpMix_take _ (by rfl) (by intro w' hSw; go_simp; first | done | rfl) ?_; try simp only [Act.put, List.setIfInBounds_toArray, List.set_cons_zero, List.set_cons_succ])
      refine QT.wpMix_nil ?_
      repeat (first | go_skip | go_guarded | go_step | go_upon)
      refine NoPanic.normal ?_
      obtain ⟨x0, x1, -⟩ := row2 RA3.out
      obtain ⟨y0, y1, -⟩ := row2 RB3.out
      cases fb with
      | none =>
        simp only [Option.map_none, Option.getD_none, Option.isSome_none]
        obtain ⟨w4, hrun, hW4, hg4⟩ := HA3.out.put lawW Tryd.underlying61 hm hwl2 (.agg #[.string s, .int .i64 (-1)]) (putF_same f _ _) (fun q hq => putF_other f _ hq)
        have HW4 := Lib.hid hW4
        have HG4 := Lib.hid hg4
        clear hW4 hg4 hwl2
        repeat (first | go_skip | go_guarded | go_step | go_upon)
        go_ret
        exact ⟨_, by rw [HFB.out]; rfl, HW4.out, HP.out, HO3.out.grown HG4.out (fun j hj _ => (Option.some.inj hj).symm)⟩
      | some j =>
        simp only [Option.map_some, Option.getD_some, Option.isSome_some]
        obtain ⟨w4, hrun, hW4, hg4⟩ := HA3.out.put lawW Tryd.underlying61 hm hwl2 (.agg #[.string s, .int .i64 j]) (putF_same f _ _) (fun q hq => putF_other f _ hq)
        have HW4 := Lib.hid hW4
        have HG4 := Lib.hid hg4
        clear hW4 hg4 hwl2
        repeat (first | go_skip | go_guarded | go_step | go_upon)
        go_ret
        exact ⟨_, by rw [HFB.out]; rfl, HW4.out, HP.out, HO3.out.grown HG4.out (fun j hj _ => (Option.some.inj hj).symm)⟩
end DM
end Go.Proofs.YtmpmmebmhffaeaaDoor
