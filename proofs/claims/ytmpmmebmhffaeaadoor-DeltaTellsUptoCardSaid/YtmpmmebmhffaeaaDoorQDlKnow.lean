/- Layer 14: the two maps by which blocks are found: know. -/
import Derived.Test.YtmpmmebmhffaeaaDoorQDlKey
import Derived.Carry
set_option linter.all false
set_option maxRecDepth 100000
set_option maxHeartbeats 25600000
namespace Go.Proofs.YtmpmmebmhffaeaaDoor
open Go.RowKit Go.Lib Go.BigFrame Go.Maps
namespace DM
open OM DL HP HS

open Classical in
/-- The number of the first block that has this value. -/
noncomputable def firstN : List Bk → Value → Option Nat
  | [], _ => none
  | x :: r, v => if bkV x = v then some 0 else (firstN r v).map (· + 1)
theorem firstN_bk : ∀ (bs : List Bk) (b : Bk), firstN bs (bkV b) = findB bs b
  | [], _ => rfl
  | x :: r, b => by
    unfold firstN findB
    by_cases e : x = b
    · rw [if_pos e, if_pos (by rw [e])]
    · rw [if_neg e, if_neg (fun h => e (bkV_inj h)), firstN_bk r b]
theorem firstN_snoc (bs : List Bk) (x : Bk) (v : Value) (h : v ≠ bkV x ∨ (firstN bs v).isSome = true) : firstN (bs ++ [x]) v = firstN bs v := by
  induction bs with
  | nil =>
    rcases h with h | h
    · show firstN [x] v = none
      unfold firstN
      rw [if_neg (fun e => h e.symm)]
      rfl
    · cases h
  | cons y r ih =>
    rw [List.cons_append]
    unfold firstN
    by_cases e : bkV y = v
    · rw [if_pos e, if_pos e]
    · rw [if_neg e, if_neg e, ih ?_]
      rcases h with h | h
      · exact .inl h
      · refine .inr ?_
        unfold firstN at h
        rw [if_neg e] at h
        cases hr : firstN r v with
        | none => rw [hr] at h; cases h
        | some i => rfl
noncomputable def firstF (bs : List Bk) (v : Value) : Option Value := (firstN bs v).map fun i => .int .i64 (i : Nat)
/-- A block that a map may hold. -/
def BkOk (b : Bk) : Prop := b.1 < 4294967296 ∧ b.2.1.length ≤ 1048576 ∧ -9223372036854775808 ≤ b.2.2 ∧ b.2.2 ≤ 9223372036854775807
theorem BkOk.key {b : Bk} (h : BkOk b) : ∃ kl, keyOf Tryd.prog 33 (bkV b) = some kl := keyB b h.1 (by unfold maxLen; have := h.2.1; omega) h.2.2.1 h.2.2.2
theorem BkOk.wkey {b : Bk} (h : BkOk b) : ∃ kl, keyOf Tryd.prog 90 (wkV b.1 b.2.2) = some kl := keyW b.1 b.2.2 h.1 h.2.2.1 h.2.2.2
def noAns : Value := .agg #[.string ⟨#[]⟩, .int .i64 (-1)]
/-- Nothing was looked for yet. -/
structure KnowOk (bs : List Bk) (f : Value → Option Value) : Prop where
  has : ∀ k n, (f (wkV k n)).isSome = true ↔ ∃ b ∈ bs, b.1 = k ∧ b.2.2 = n
  val : ∀ k n v, f (wkV k n) = some v → v = noAns
open Classical in
noncomputable def putF (f : Value → Option Value) (x v : Value) : Value → Option Value := fun q => if q = x then some v else f q
theorem putF_same (f : Value → Option Value) (x v : Value) : putF f x v x = some v := if_pos rfl
theorem putF_other (f : Value → Option Value) {x q : Value} (v : Value) (h : q ≠ x) : putF f x v q = f q := if_neg h
theorem KnowOk.nil : KnowOk [] (fun _ => none) := ⟨fun k n => ⟨(fun h => by cases h), (fun ⟨b, hb, _⟩ => by cases hb)⟩, (fun k n v h => by cases h)⟩
theorem KnowOk.put {bs : List Bk} {f : Value → Option Value} (h : KnowOk bs f) (b : Bk) : KnowOk (bs ++ [b]) (putF f (wkV b.1 b.2.2) noAns) := by
  constructor
  · intro k n
    by_cases e : wkV k n = wkV b.1 b.2.2
    · rw [e, putF_same]
      obtain ⟨e1, e2⟩ := wkV_inj e
      exact ⟨fun _ => ⟨b, by simp, e1.symm, e2.symm⟩, fun _ => rfl⟩
    · rw [putF_other _ _ e, h.has k n]
      constructor
      · rintro ⟨c, hc, h1⟩
        exact ⟨c, List.mem_append.2 (.inl hc), h1⟩
      · rintro ⟨c, hc, h1, h2⟩
        rcases List.mem_append.1 hc with hc | hc
        · exact ⟨c, hc, h1, h2⟩
        · rw [List.mem_singleton] at hc
          subst hc
          exact absurd (by rw [h1, h2]) e
  · intro k n v hv
    by_cases e : wkV k n = wkV b.1 b.2.2
    · rw [e, putF_same] at hv
      injection hv with hv
      exact hv.symm
    · rw [putF_other _ _ e] at hv
      exact h.val k n v hv
abbrev MapW (W : World) (b n : Nat) (f : Value → Option Value) : Prop := MapF Tryd.prog 90 W b n f
abbrev MapB (W : World) (b n : Nat) (f : Value → Option Value) : Prop := MapF Tryd.prog 33 W b n f
theorem zeroA (W : World) : (zeroValue 88).run Tryd.prog W = .ok (.agg #[.string ⟨#[]⟩, .int .i64 0]) W := Tryd.zeroValue88 W
theorem zeroI (W : World) : (zeroValue 3).run Tryd.prog W = .ok (.int .i64 0) W := Tryd.zeroValue3 W
theorem grown_map {P : Program} {kt : TypeId} {W W' : World} {b b' n : Nat} {f : Value → Option Value} (h : MapF P kt W b n f) (hg : W.grownBy W' (some b')) (hne : b ≠ b') : MapF P kt W' b n f := h.row (hg.block b h.lt (fun e => hne (Option.some.inj e)))
theorem grown_row {P : Program} {kt : TypeId} {W W' : World} {b' n g : Nat} {f : Value → Option Value} {cs : Array Value} {t : TypeId} {z : Nat × Nat} (h : MapF P kt W b' n f) (hg : W.grownBy W' (some b')) (hr : W.heap[g]? = some (.cells cs t z)) : W'.heap[g]? = some (.cells cs t z) := by
  refine (hg.block g (Array.getElem?_eq_some_iff.1 hr).1 (fun e => ?_)).trans hr
  obtain ⟨es, c, hm⟩ := h.kind
  rw [← Option.some.inj e, hr] at hm
  cases hm
theorem grown_below {W W' : World} {B b' : Nat} (hg : W.grownBy W' (some b')) (hb : B ≤ b') (hB : B ≤ W.heap.size) : Below B W W' := ⟨hg.os, hg.tape, hg.output, hg.size, fun k hk => hg.block k (by omega) (fun e => by have := Option.some.inj e; omega)⟩
/-- Both maps, after so many blocks, in the box of the call's own. -/
def KnInv (w : World) (bs : List Bk) (K : Nat) (s13 : Value) (wr : World) : Prop :=
  ∃ (k : Nat) (b1 b2 : Nat) (f : Value → Option Value), s13 = .int .i64 k ∧ k ≤ bs.length ∧ wr.heap[K]? = some (.cells #[.map (some b1), .map (some b2)] 64 (0, 0)) ∧
    MapW wr b1 k f ∧ KnowOk (bs.take k) f ∧ MapB wr b2 k (firstF (bs.take k)) ∧ w.heap.size ≤ K ∧ w.heap.size ≤ b1 ∧ w.heap.size ≤ b2 ∧ b1 ≠ b2 ∧ Below w.heap.size w wr
set_option maxRecDepth 100000 in
set_option maxHeartbeats 6400000 in
theorem know_any (bs : List Bk) (ao : Option Addr) (c : Nat) (w : World) (hl : LayB w ao bs) (hn : bs.length ≤ 4194304) (hb : ∀ b ∈ bs, BkOk b) :
    Calls Tryd.prog 23 #[.slice ao bs.length c] w fun r w' => ∃ b1 b2 f, r = .returned (.agg #[.map (some b1), .map (some b2)]) ∧ MapW w' b1 bs.length f ∧ KnowOk bs f ∧ MapB w' b2 bs.length (firstF bs) ∧ w.heap.size ≤ b1 ∧ w.heap.size ≤ b2 ∧ b1 ≠ b2 ∧ Below w.heap.size w w' := by
  obtain ⟨n, hnn⟩ : ∃ n, bs.length = n := ⟨_, rfl⟩
  have HN := Lib.hid hnn
  have HL := Lib.hid hl
  have HK := Lib.hid hb
  rw [hnn] at hn ⊢
  have hnz : (n : Int) ≤ 4194304 := by omega
  have hmm := @run_makeMap Tryd.prog
  clear hl hb hnn
  go_enter Tryd.func23, Tryd.ntmps23
  repeat (first | go_skip | go_guarded | go_step | go_upon)
  have HR0 : Hid ((w.alloc (.cells #[.map none, .map none] 64)).heap[w.heap.size]? = some (.cells #[.map none, .map none] 64 (0, 0))) := Lib.hid (heap_alloc_new w _)
  have HB0 : Hid (Below w.heap.size w (w.alloc (.cells #[.map none, .map none] 64))) := Lib.hid ((Below.refl _ _).alloc (Nat.le_refl _) _)
  have HS0 : Hid ((w.alloc (.cells #[.map none, .map none] 64)).heap.size = w.heap.size + 1) := Lib.hid (World.size_alloc _ _)
  rw [show w.heap.size + 1 + 1 + 1 = (w.alloc (.cells #[.map none, .map none] 64)).heap.size + 2 by rw [HS0.out], show w.heap.size + 1 + 1 = (w.alloc (.cells #[.map none, .map none] 64)).heap.size + 1 by rw [HS0.out], show w.heap.size + 1 = (w.alloc (.cells #[.map none, .map none] 64)).heap.size by rw [HS0.out]]
  generalize w.alloc (.cells #[.map none, .map none] 64) = w0 at HR0 HB0 HS0 ⊢
  have HI : Hid (KnInv w0 bs (w0.heap.size + 2) (.int .i64 0) (((w0.alloc (.map #[] 0)).alloc (.map #[] 0)).alloc (.cells #[.map (some w0.heap.size), .map (some (w0.heap.size + 1))] 64))) := Lib.hid (by
    have m1 : MapW (w0.alloc (.map #[] 0)) w0.heap.size 0 (fun _ => none) := MapF.made w0
    have m2 : MapB ((w0.alloc (.map #[] 0)).alloc (.map #[] 0)) (w0.heap.size + 1) 0 (fun _ => none) := by
      have := MapF.made (P := Tryd.prog) (k := 33) (w0.alloc (.map #[] 0))
      rw [World.size_alloc] at this
      exact this
    refine ⟨0, w0.heap.size, w0.heap.size + 1, fun _ => none, rfl, Nat.zero_le _, ?_, (m1.alloc _).alloc _, KnowOk.nil, m2.alloc _, by omega, Nat.le_refl _, by omega, by omega, (((Below.refl _ _).alloc (Nat.le_refl _) _).alloc (by rw [World.size_alloc]; omega) _).alloc (by rw [World.size_alloc, World.size_alloc]; omega) _⟩
    have := heap_alloc_new ((w0.alloc (.map #[] 0)).alloc (.map #[] 0)) (.cells #[.map (some w0.heap.size), .map (some (w0.heap.size + 1))] 64)
    rw [World.size_alloc, World.size_alloc] at this
    exact this)
  generalize w0.heap.size + 2 = K at HI ⊢
  generalize ((w0.alloc (.map #[] 0)).alloc (.map #[] 0)).alloc (.cells #[.map (some w0.heap.size), .map (some (w0.heap.size + 1))] 64) = wa at HI ⊢
  go_loopw [13] (fun s13 wr => KnInv w0 bs K s13 wr) (fun s13 _ => n - (Go.RowKit.intOf s13).toNat)
  case atStart => exact HI.out
  case round =>
    obtain ⟨k, b1, b2, f, rfl, hk, hK, hW, hf, hB, hK0, hb1, hb2, hne, hbl⟩ := hrel
    rw [HN.out] at hk
    have HRK := Lib.hid hK
    have HW := Lib.hid hW
    have HF := Lib.hid hf
    have HMB := Lib.hid hB
    have HBl := Lib.hid hbl
    have HBw := Lib.hid (HB0.out.trans (hbl.mono HB0.out.size))
    have HLt := Lib.hid (And.intro hK0 (And.intro hb1 (And.intro hb2 hne)))
    clear hK hW hf hB hbl HI hK0 hb1 hb2 hne
    have ck0 : wr.cell? ⟨K, 0, none⟩ = some (.map (some b1)) := by rw [cell_row HRK.out]; rfl
    have hKs : K < wr.heap.size := (Array.getElem?_eq_some_iff.1 HRK.out).1
    have ck1 : wr.cell? ⟨K, 1, none⟩ = some (.map (some b2)) := by rw [cell_row HRK.out]; rfl
    by_cases hlt : k < n
    · have hkz : (k : Int) < n := by omega
      obtain ⟨g, o, rfl, hg, hc⟩ := (HL.out.below HBw.out) (by rw [HN.out]; omega)
      obtain ⟨b, hbk⟩ : ∃ b, bs[k]? = some b := ⟨bs[k]'(by rw [HN.out]; exact hlt), List.getElem?_eq_getElem _⟩
      have hok := HK.out b (List.mem_of_getElem? hbk)
      obtain ⟨kl, hkl⟩ := hok.key
      obtain ⟨wl, hwl⟩ := hok.wkey
      obtain ⟨x, y, z⟩ := b
      obtain ⟨c0, c1, c2⟩ := hc k (x, y, z) hbk
      have HBK := Lib.hid hbk
      simp only [bW, bS, bN, txt] at c0 c1 c2
      have hm1 := HMB.out.alloc (.cells #[.int .u32 (x : Nat), .string ⟨y.toArray⟩, .int .i64 z] 33)
      have hl1 := hm1.look_ok lawB Tryd.underlying62 (zeroI _) hkl
      unfold firstF at hl1
      rw [firstN_bk] at hl1
      unfold bkV at hl1
      simp only at hl1
      clear hc hbk hlt
      have H1 : Hid ((wr.alloc (.cells #[.int .u32 (x : Nat), .string ⟨y.toArray⟩, .int .i64 z] 33)).heap[wr.heap.size]? = some (.cells #[.int .u32 (x : Nat), .string ⟨y.toArray⟩, .int .i64 z] 33 (0, 0))) := Lib.hid (heap_alloc_new wr _)
      have HK1 : Hid ((wr.alloc (.cells #[.int .u32 (x : Nat), .string ⟨y.toArray⟩, .int .i64 z] 33)).heap[K]? = some (.cells #[.map (some b1), .map (some b2)] 64 (0, 0))) := Lib.hid ((((Below.refl wr.heap.size wr).alloc (Nat.le_refl _) _).block K hKs).trans HRK.out)
      have HW1 := Lib.hid (HW.out.alloc (.cells #[.int .u32 (x : Nat), .string ⟨y.toArray⟩, .int .i64 z] 33))
      have HB1 := Lib.hid (HBl.out.alloc (HBl.out.size) (.cells #[.int .u32 (x : Nat), .string ⟨y.toArray⟩, .int .i64 z] 33))
      have HM1 := Lib.hid hm1
      have hwl2 : keyOf Tryd.prog 90 (.agg #[.int .u32 (x : Nat), .int .i64 z]) = some wl := hwl
      have HTk : Hid (bs.take (k + 1) = bs.take k ++ [(x, y, z)]) := Lib.hid (by rw [List.take_add_one, HBK.out]; rfl)
      have hkm : k < maxLen := by unfold maxLen; omega
      clear hm1 hwl
      cases hfb : findB (bs.take k) (x, y, z) with
      | some i =>
        rw [hfb] at hl1
        simp only [Option.map_some, Option.getD_some, Option.isSome_some] at hl1
        obtain ⟨w2, hrun, hW2, hg2⟩ := HW1.out.put lawW Tryd.underlying61 hkm hwl2 (.agg #[.string ⟨#[]⟩, .int .i64 (-1)]) (putF_same f _ _) (fun q hq => putF_other f _ hq)
        have HW2 := Lib.hid hW2
        have HG2 := Lib.hid hg2
        have HFB := Lib.hid hfb
        clear hW2 hg2 hfb hkl hwl2
        repeat (first | go_skip | go_guarded | go_step | go_upon)
        refine ⟨⟨k + 1, b1, b2, _, by go_num, by rw [HN.out]; omega, grown_row HW1.out HG2.out HK1.out, HW2.out, ?_, (grown_map HM1.out HG2.out (fun e => HLt.out.2.2.2 e.symm)).mono (Nat.le_succ _) |> fun h => ?_, HLt.out.1, HLt.out.2.1, HLt.out.2.2.1, HLt.out.2.2.2, HB1.out.trans (grown_below HG2.out HLt.out.2.1 (HB1.out.size))⟩, by simp [Go.RowKit.intOf]; omega⟩
        · rw [HTk.out]
          exact HF.out.put (x, y, z)
        · have e : firstF (bs.take (k + 1)) = firstF (bs.take k) := funext fun v => by
            unfold firstF
            rw [HTk.out, firstN_snoc]
            by_cases e : v = bkV (x, y, z)
            · exact .inr (by rw [e, firstN_bk, HFB.out]; rfl)
            · exact .inl e
          rw [e]
          exact h
      | none =>
        rw [hfb] at hl1
        simp only [Option.map_none, Option.getD_none, Option.isSome_none] at hl1
        have hkl2 : keyOf Tryd.prog 33 (.agg #[.int .u32 (x : Nat), .string ⟨y.toArray⟩, .int .i64 z]) = some kl := hkl
        have hlen : (bs.take k).length = k := by rw [List.length_take, HN.out]; omega
        obtain ⟨w2, hrun, hM2, hg2⟩ := HM1.out.put lawB Tryd.underlying62 hkm hkl2 (.int .i64 k) (f' := firstF (bs.take k ++ [(x, y, z)])) (by
          show firstF _ (bkV (x, y, z)) = _
          unfold firstF
          rw [firstN_bk, findB_snoc, hfb]
          simp only [if_true, hlen, Option.map_some]) (fun q hq => by
          unfold firstF
          rw [firstN_snoc _ _ _ (.inl hq)])
        have HK2 := Lib.hid (grown_row HM1.out hg2 HK1.out)
        have H2 := Lib.hid (grown_row HM1.out hg2 H1.out)
        have HB2 := Lib.hid (HB1.out.trans (grown_below hg2 HLt.out.2.2.1 HB1.out.size))
        have HW2 := Lib.hid (grown_map HW1.out hg2 HLt.out.2.2.2)
        have HM2 := Lib.hid hM2
        have d0 : w2.cell? ⟨K, 0, none⟩ = some (.map (some b1)) := by rw [cell_row HK2.out]; rfl
        obtain ⟨e0, e1, e2, -⟩ := row3 H2.out
        have hKs2 : K < w2.heap.size := (Array.getElem?_eq_some_iff.1 HK2.out).1
        obtain ⟨w3, hrun3, hW3, hg3⟩ := HW2.out.put lawW Tryd.underlying61 hkm hwl2 (.agg #[.string ⟨#[]⟩, .int .i64 (-1)]) (putF_same f _ _) (fun q hq => putF_other f _ hq)
        have HW3 := Lib.hid hW3
        have HG3 := Lib.hid hg3
        clear hW3 hg3 hM2 hg2 hfb hkl hkl2 hwl2 hlen
        repeat (first | go_skip | go_guarded | go_step | go_upon)
        refine ⟨⟨k + 1, b1, b2, _, by go_num, by rw [HN.out]; omega, grown_row HW2.out HG3.out HK2.out, HW3.out, ?_, ?_, HLt.out.1, HLt.out.2.1, HLt.out.2.2.1, HLt.out.2.2.2, HB2.out.trans (grown_below HG3.out HLt.out.2.1 (HB2.out.size))⟩, by simp [Go.RowKit.intOf]; omega⟩
        · rw [HTk.out]
          exact HF.out.put (x, y, z)
        · rw [HTk.out]
          exact grown_map HM2.out HG3.out (fun e => HLt.out.2.2.2 e.symm)
    · have hkz : ¬ (k : Int) < n := by omega
      obtain rfl : k = n := by omega
      clear hlt
      have HR1 := Lib.hid ((HBl.out.block w.heap.size (by rw [HS0.out]; omega)).trans HR0.out)
      have r0 : wr.cell? ⟨w.heap.size, 0, none⟩ = some (.map none) := by rw [cell_row HR1.out]; rfl
      have r1 : wr.cell? ⟨w.heap.size, 1, none⟩ = some (.map none) := by rw [cell_row HR1.out]; rfl
      have q0 : wr.frozen? ⟨w.heap.size, 0, none⟩ = false := Lib.frozen_of_heap HR1.out 0
      have q1 : wr.frozen? ⟨w.heap.size, 1, none⟩ = false := Lib.frozen_of_heap HR1.out 1
      repeat (first | go_skip | go_guarded | go_step | go_upon)
      refine bodyPost_ret (v := .agg #[.map (some b1), .map (some b2)]) ?_ rfl ?_
      · rw [results_cell1 rfl]
        go_simp
      · have hb0 : b1 ≠ w.heap.size ∧ b2 ≠ w.heap.size := by
          have := HLt.out.2.1
          have := HLt.out.2.2.1
          rw [HS0.out] at *
          omega
        have e : bs.take k = bs := List.take_of_length_le (by rw [HN.out]; exact Nat.le_refl _)
        rw [e] at HF HMB
        exact ⟨b1, b2, f, rfl, (HW.out.set (a := ⟨w.heap.size, 0, none⟩) hb0.1 _).set (a := ⟨w.heap.size, 1, none⟩) hb0.1 _, HF.out, (HMB.out.set (a := ⟨w.heap.size, 0, none⟩) hb0.2 _).set (a := ⟨w.heap.size, 1, none⟩) hb0.2 _, by have := HLt.out.2.1; rw [HS0.out] at this; omega, by have := HLt.out.2.2.1; rw [HS0.out] at this; omega, HLt.out.2.2.2, (HBw.out.setCell (p := ⟨w.heap.size, 0, none⟩) (Nat.le_refl _) _).setCell (p := ⟨w.heap.size, 1, none⟩) (Nat.le_refl _) _⟩
end DM
end Go.Proofs.YtmpmmebmhffaeaaDoor
