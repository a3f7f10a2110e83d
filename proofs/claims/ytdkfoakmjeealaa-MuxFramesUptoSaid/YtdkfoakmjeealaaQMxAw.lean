/- Layer 16: the statements' own guard 'awake'. -/
import Derived.Test.YtdkfoakmjeealaaQMxSend
import Derived.Test.YtdkfoakmjeealaaQMxTake
set_option linter.all false
set_option maxRecDepth 100000
set_option maxHeartbeats 25600000
namespace Go.Proofs.Ytdkfoakmjeealaa
open Go.RowKit Go.Lib Go.BigFrame
namespace MX
open OM FP

/-- A frame is the same as itself. -/
theorem eq_fr (a b : Int) (x : ByteArray) (d : Bool) (W : World) : (Op.equalIn 10000 29 (.agg #[.int .i64 a, .int .i64 b, .string x, .bool d]) (.agg #[.int .i64 a, .int .i64 b, .string x, .bool d])).run Try.prog W = .ok true W := by
  rw [run_equalIn_struct W 9999 29 _ _ (by kernel_rfl) (by kernel_rfl)]
  have names : (Try.prog.fieldsOf 29).toList.map (fun f => (f.name, f.type, f.offset)) = [("Call", 3, 0), ("At", 3, 1), ("Text", 9, 2), ("Last", 4, 3)] := by kernel_rfl
  obtain ⟨f0, f1, f2, f3, e⟩ : ∃ f0 f1 f2 f3, (Try.prog.fieldsOf 29).toList = [f0, f1, f2, f3] := by
    have hl := congrArg List.length names
    rw [List.length_map] at hl
    match h : (Try.prog.fieldsOf 29).toList, hl with
    | [f0, f1, f2, f3], _ => exact ⟨f0, f1, f2, f3, rfl⟩
  rw [e] at names
  simp only [List.map_cons, List.map_nil, List.cons.injEq, Prod.mk.injEq, and_true] at names
  obtain ⟨⟨n0, t0, o0⟩, ⟨n1, t1, o1⟩, ⟨n2, t2, o2⟩, n3, t3, o3⟩ := names
  rw [e]
  simp [Op.eqFields, go_sem, n0, n1, n2, n3, t0, t1, t2, t3, o0, o1, o2, o3, Try.underlying9, Try.underlying3, Try.underlying4]
/-- What a sender lies in and what a receiver lies in is apart: the blocks are of other types. -/
theorem sep {b bi : Nat} {W S : Int} {cs : List Cl} {v vi d : Value} {ps : List (Rc × Value)} {ds : List Int} {w : World} (h : OutA b W S cs v w) (k : InA bi ps ds vi d w) : ∀ j, mo b v j → ¬ mi bi ps vi d j := by
  have ty : ∀ j, mo b v j → ∃ c t fz, w.heap[j]? = some (.cells c t fz) ∧ (t = 75 ∨ t = 79) := fun j hj => by
    rcases hj with rfl | hj
    · exact ⟨_, _, _, h.row, .inl rfl⟩
    · obtain ⟨c, fz, h1⟩ := owns_kind h.own j hj
      exact ⟨_, _, _, h1, .inr rfl⟩
  intro j hj hk
  obtain ⟨c, t, fz, h1, h2⟩ := ty j hj
  have go : ∀ (c2 : Array Value) (t2 : TypeId) (fz2 : Nat × Nat), w.heap[j]? = some (.cells c2 t2 fz2) → t2 = t := fun c2 t2 fz2 h3 => by
    rw [h1] at h3
    injection h3 with h3
    injection h3 with _ h3 _
    exact h3.symm
  rcases hk with rfl | hk | hk | ⟨p, hp, hk⟩
  · have := go _ _ _ k.row
    rcases h2 with h2 | h2 <;> rw [h2] at this <;> exact absurd this (by decide)
  · obtain ⟨c2, fz2, h3⟩ := owns_kind k.own j hk
    have := go _ _ _ h3
    rcases h2 with h2 | h2 <;> rw [h2] at this <;> exact absurd this (by decide)
  · obtain ⟨c2, fz2, h3⟩ := owns_kind k.don j hk
    have := go _ _ _ h3
    rcases h2 with h2 | h2 <;> rw [h2] at this <;> exact absurd this (by decide)
  · obtain ⟨c2, fz2, h3⟩ := owns_kind (k.tx p hp) j hk
    have := go _ _ _ h3
    rcases h2 with h2 | h2 <;> rw [h2] at this <;> exact absurd this (by decide)
def abc : List UInt8 := [97, 98, 99, 100, 101, 102]
def aCl : Cl := newC abc
set_option maxRecDepth 100000 in
set_option maxHeartbeats 3200000 in
theorem awake_any (w : World) : Calls Try.prog 6 #[] w fun r w' => r = .returned (.bool true) ∧ Below w.heap.size w w' := by
  have C1 := Lib.hid (newOut_any 4 3 w (by decide) (by decide))
  have hch : chosen 4 [aCl] 0 = some 0 := by decide
  have hfr : frV (frO 4 3 0 aCl) = .agg #[.int .i64 0, .int .i64 0, .string ⟨#[97, 98, 99]⟩, .bool false] := by rfl
  have htk : takes (List.replicate 64 noR) (frO 4 3 0 aCl) = some noR := by rfl
  have hok1 : ∀ c ∈ [aCl], c.Ok := fun c hc => by
    simp at hc
    rw [hc]
    exact new_ok (by decide)
  have hwl : wayL [goOn 4 3 aCl] 0 = 3 := by decide
  have qe := eq_fr 0 0 ⟨#[97, 98, 99]⟩ false
  go_enter Try.func6, Try.ntmps6
  repeat (first | (go_at_call 7; fail) | go_skip | go_guarded | go_step | go_upon)
  refine C1.out.mono ?_
  rintro r w1 ⟨rfl, h1, hb1⟩
  simp only []
  obtain ⟨b, hb⟩ : ∃ b, w.heap.size = b := ⟨_, rfl⟩
  rw [hb] at h1 ⊢
  have HB := Lib.hid hb
  have B1 := Lib.hid hb1
  have C2 := Lib.hid (Put_any b 4 3 [] _ abc w1 h1 (by decide))
  unfold txt abc at C2
  clear h1 hb1
  repeat (first | (go_at_call 9; fail) | go_skip | go_guarded | go_step | go_upon)
  refine C2.out.mono ?_
  intro r w2 h2
  unfold PutPost at h2
  rw [if_pos (by decide)] at h2
  obtain ⟨rfl, v2, h2, ho2, hv2⟩ := h2
  simp only []
  have hlo2 : ∀ k, mo b v2 k → b ≤ k := fun k hk => by
    rcases hk with rfl | hk
    · exact Nat.le_refl _
    · rcases hv2 with e | ⟨g, e, hg⟩
      · rw [e] at hk; cases hk
      · rw [e] at hk; injection hk with hk; have := B1.out.size; have := HB.out; omega
  have B2 : Hid (Below w.heap.size w w2) := Lib.hid (B1.out.trans (ho2.below (fun k hk _ hm => by
    rcases hm with e | e
    · have := HB.out; omega
    · cases e) (by exact B1.out.size)))
  have C3 := Lib.hid (Send_any b 4 3 [aCl] v2 0 w2 h2 hok1 (by decide) (by decide) (by decide) (by decide) (by decide) (by decide))
  have L2 := Lib.hid hlo2
  clear h2 ho2 hv2 hlo2
  simp only [List.length_nil]
  repeat (first | (go_at_call 8; fail) | go_skip | go_guarded | go_step | go_upon)
  refine C3.out.mono ?_
  intro r w3 h3
  unfold SendPost at h3
  rw [hch] at h3
  obtain ⟨c, hc, rfl, h3, ho3⟩ := h3
  obtain rfl : c = aCl := by
    have hc : some aCl = some c := hc
    injection hc with hc
    exact hc.symm
  rw [hfr]
  simp only []
  have B3 : Hid (Below w.heap.size w w3) := Lib.hid (B2.out.trans (ho3.below (fun k hk _ hm => by have := L2.out k hm; have := HB.out; omega) B2.out.size))
  have H3 := Lib.hid h3
  clear h3 ho3 hc
  repeat (first | go_skip | go_guarded | go_step | go_upon)
  obtain ⟨w4, hw4⟩ : ∃ w4, w3.alloc (.cells #[.int .i64 0, .int .i64 0, .string ⟨#[97, 98, 99]⟩, .bool false] 29) = w4 := ⟨_, rfl⟩
  have b4 : Below w3.heap.size w3 w4 := hw4 ▸ (Below.refl _ _).alloc (Nat.le_refl _) _
  have r4 : w4.heap[w3.heap.size]? = some (.cells #[.int .i64 0, .int .i64 0, .string ⟨#[97, 98, 99]⟩, .bool false] 29 (0, 0)) := hw4 ▸ heap_alloc_new w3 _
  obtain ⟨F, hF⟩ : ∃ F, w3.heap.size = F := ⟨_, rfl⟩
  rw [hF] at r4
  try rw [hw4]
  try rw [hF]
  have H4 := Lib.hid (H3.out.below b4)
  have B4 : Hid (Below w.heap.size w w4) := Lib.hid (B3.out.trans (b4.mono B3.out.size))
  have R4 := Lib.hid r4
  clear b4 r4
  refine wp_region_noPanic ?_
  with_reducible refine QT.region_mix (S := fun W => W.heap[F]? = some (.cells #[.int .i64 0, .int .i64 0, .string ⟨#[97, 98, 99]⟩, .bool false] 29 (0, 0))) [(true, 1), (false, 0), (false, 2), (true, 3), (true, 4), (true, 5), (true, 6)] 7 (by kernel_rfl) (by kernel_rfl) ?_ ?_ ?_
  · exact fun _ _ _ _ _ h => h
  · exact R4.out
  intro _
  simp only [QT.pickM, List.filterMap_cons, List.filterMap_nil, List.getElem?_cons_succ, List.getElem?_cons_zero, Option.map_some, List.drop_succ_cons, List.drop_zero]
  refine QT.wpMix_take _ (by rfl) (by intro w' hSw; have z0 := (row_cell (j := 0) hSw).trans rfl; have z1 := (row_cell (j := 1) hSw).trans rfl; have z2 := (row_cell (j := 2) hSw).trans rfl; have z3 := (row_cell (j := 3) hSw).trans rfl; go_simp; first | done | rfl) ?_
  try simp only [Act.put, List.setIfInBounds_toArray, List.set_cons_zero, List.set_cons_succ]
  intro K' hK
  rw [if_pos (by rfl)]
  go_simp
  refine (newIn_any w4.drew).mono ?_
  rintro r w5 ⟨bi, vi, rfl, h5, hb5, hl5⟩
  simp only []
  have b5 : Below w4.heap.size w4 w5 := ((Below.refl _ _).drew).trans hb5
  have h5F := (b5.block F (Array.getElem?_eq_some_iff.1 R4.out).1).trans R4.out
  refine hK.out _ _ h5F ?_
  have O5 := Lib.hid (H4.out.below b5)
  have B5 : Hid (Below w.heap.size w w5) := Lib.hid (B4.out.trans (b5.mono B4.out.size))
  clear hK K'
  try simp only [Act.put, List.setIfInBounds_toArray, List.set_cons_zero, List.set_cons_succ]
  have C5 := Lib.hid (Take_any bi _ [] vi _ (frO 4 3 0 aCl) w5 h5 (by simp) (fun p hp => by rw [(List.mem_replicate.1 hp).2]; decide) (by decide) (by decide))
  rw [hfr] at C5
  intro K' hK
  rw [if_pos (by rfl)]
  go_simp
  refine C5.out.mono ?_
  intro r w6 h6
  unfold TakePost at h6
  have hmap : (List.replicate 64 ((noR, Value.slice none 0 0) : Rc × Value)).map Prod.fst = List.replicate 64 noR := by rw [List.map_replicate]
  rw [hmap, htk] at h6
  obtain ⟨rfl, p6, t6, d6, -, -, h6, ho6, -⟩ := h6
  have h6F : w6.heap[F]? = some (.cells #[.int .i64 0, .int .i64 0, .string ⟨#[97, 98, 99]⟩, .bool false] 29 (0, 0)) := (ho6.block F (Array.getElem?_eq_some_iff.1 h5F).1 (fun hm => by
    have := hl5 F hm
    have := (Array.getElem?_eq_some_iff.1 R4.out).1
    have e : w4.drew.heap.size = w4.heap.size := rfl
    omega)).trans h5F
  refine hK.out _ _ h6F ?_
  have O6 := Lib.hid (O5.out.keep ho6 (sep O5.out h5))
  have B6 : Hid (Below w.heap.size w w6) := Lib.hid (B5.out.trans (ho6.below (fun k hk _ hm => by
    have := hl5 k hm
    have e : w4.drew.heap.size = w4.heap.size := rfl
    have := B4.out.size
    omega) B5.out.size))
  clear hK K' h6 ho6 h5 hb5 hl5 C5 h5F b5
  try simp only [Act.put, List.setIfInBounds_toArray, List.set_cons_zero, List.set_cons_succ]
  iterate 4 (refine QT.wpMix_take _ (by rfl) (by intro w' hSw; go_simp; first | done | rfl) ?_; try simp only [Act.put, List.setIfInBounds_toArray, List.set_cons_zero, List.set_cons_succ])
  refine QT.wpMix_nil ?_
  repeat (first | go_skip | go_guarded | go_step | go_upon)
  refine NoPanic.normal ?_
  have z0 := (row_cell (j := 0) h6F).trans rfl
  have z1 := (row_cell (j := 1) h6F).trans rfl
  have z2 := (row_cell (j := 2) h6F).trans rfl
  have z3 := (row_cell (j := 3) h6F).trans rfl
  have CW := Lib.hid (Way_any b 4 3 _ v2 0 w6 O6.out (fun c hc => by
    have hc : c ∈ [goOn 4 3 aCl] := hc
    simp at hc
    rw [hc]
    exact goOn_ok (new_ok (by decide)) (by decide) (by decide)))
  have CW2 : Hid (Calls Try.prog 11 #[ptr b, .int .i64 0] w6 fun r w' => r = .returned (.int .i64 3) ∧ Below w6.heap.size w6 w') := Lib.hid (CW.out.mono (fun r w' h => ⟨h.1, h.2⟩))
  clear h6F CW
  repeat (first | (go_at_call 11; fail) | go_skip | go_guarded | go_step | go_upon)
  refine CW2.out.mono ?_
  rintro r w7 ⟨rfl, hb7⟩
  simp only []
  have B7 := Lib.hid (B6.out.trans (hb7.mono B6.out.size))
  clear hb7
  repeat (first | go_skip | go_guarded | go_step | go_upon)
  go_ret
  exact ⟨rfl, B7.out⟩
end MX
end Go.Proofs.Ytdkfoakmjeealaa
