/- Layer 16: the contracts of Encode, the program's and the document's. -/
import Derived.Test.YtdkfoakmjeealaaQMxFr
import Derived.Test.YtdkfoakmjeealaaQMxPass
import Derived.Test.YtdkfoakmjeealaaQMxPiece
import Derived.Test.YtdkfoakmjeealaaShelf
import Derived.Lib.Join
set_option linter.all false
set_option maxRecDepth 100000
set_option maxHeartbeats 25600000
namespace Go.Proofs.Ytdkfoakmjeealaa
open Go.RowKit Go.Lib Go.BigFrame
namespace MX
open CP AP OM

theorem bytes_post {l : List UInt8} {w : World} {r : Ending} {w' : World} (h : CR.NumPost l w r w') : r = .returned (.string ⟨l.toArray⟩) ∧ Below w.heap.size w w' := by
  obtain ⟨t, rfl, h1, h2⟩ := h
  refine ⟨?_, h2⟩
  rw [← h1, ← bytes_is t]
theorem all_four (x y z u : ByteArray) (bk : Nat) (w : World) (h0 : w.cell? ⟨bk, 0, none⟩ = some (.string x)) (h1 : w.cell? ⟨bk, 1, none⟩ = some (.string y)) (h2 : w.cell? ⟨bk, 2, none⟩ = some (.string z)) (h3 : w.cell? ⟨bk, 3, none⟩ = some (.string u))
    (hs : x.size + y.size + z.size + u.size ≤ 140737488355328) : Calls Try.prog 38 #[.slice (some ⟨bk, 0, none⟩) 4 4] w fun r w' => r = .returned (.string ⟨(x.data.toList ++ (y.data.toList ++ (z.data.toList ++ u.data.toList))).toArray⟩) ∧ Below w.heap.size w w' := by
  have ej : Lib.join ([x, y, z, u].map (·.data.toList)) ByteArray.empty.data.toList = x.data.toList ++ (y.data.toList ++ (z.data.toList ++ u.data.toList)) := by
    have e0 : ByteArray.empty.data.toList = [] := rfl
    rw [e0]
    simp [Lib.join]
  have cJ := Try.strings_Join bk 0 4 [x, y, z, u] ByteArray.empty w (fun j v hj => by
    match j, hj with
    | 0, hj => simp at hj; subst hj; exact h0
    | 1, hj => simp at hj; subst hj; exact h1
    | 2, hj => simp at hj; subst hj; exact h2
    | 3, hj => simp at hj; subst hj; exact h3
    | j + 4, hj => simp at hj) (World.block_lt_of_cell? _ _ h0 :) (by simp) (by simp) (by
      rw [ej]
      simp only [List.length_append, ← Lib.size_eq]
      omega)
  rw [ej] at cJ
  clear ej h0 h1 h2 h3
  go_enter Try.func38, Try.ntmps38
  go_wp2_with fail
  refine cJ.mono ?_
  rintro e w1 ⟨rfl, hb⟩
  go_wp2
  go_ret
  exact ⟨rfl, hb⟩
/-- A frame's four pieces. -/
theorem enc_parts {f : Fr} (h : ¬ (f.call < 0 ∨ f.pos < 0)) : encF f = numS f.call ++ (numS f.pos ++ (textS f.text ++ flagS f.last)) := by
  unfold encF
  rw [if_neg h]
theorem frV_of2 (f : Fr) {X : ByteArray} (h : ⟨f.text.toArray⟩ = X) : frV f = .agg #[.int .i64 f.call, .int .i64 f.pos, .string X, .bool f.last] := by
  unfold frV txt
  rw [h]
set_option maxRecDepth 100000 in
set_option maxHeartbeats 6400000 in
theorem enc_any (f : Fr) (w : World) (hc : f.call < 2 ^ 63) (hp : f.pos < 2 ^ 63) (ht : f.text.length ≤ 1048576) :
    Calls Try.prog 25 #[frV f] w fun r w' => r = .returned (.string ⟨(encF f).toArray⟩) ∧ Below w.heap.size w w' := by
  obtain ⟨X, hX⟩ : ∃ X : ByteArray, ⟨f.text.toArray⟩ = X := ⟨_, rfl⟩
  have hXd : X.data.toList = f.text := by rw [← hX]
  have hXz : X.size = f.text.length := by rw [Lib.size_eq, hXd]
  have cN1 := fun W => (CQ.num_any f.call W hc).mono (fun r w' h => bytes_post h)
  have cN2 := fun W => (CQ.num_any f.pos W hp).mono (fun r w' h => bytes_post h)
  have cT := fun W => (CR.text_wr X W (by have := CX.nm_nine (n := X.size) (by omega); unfold maxLen; omega)).mono (fun r w' h => bytes_post h)
  have cF := fun W => (CQ.wflag_post f.last W).mono (fun r w' h => bytes_post h)
  have z1 := CX.numS_nine hc
  have z2 := CX.numS_nine hp
  have z3 : (textS X.data.toList).length ≤ 9 + 1048576 := by
    have := CX.nm_nine (n := X.data.toList.length) (by rw [hXd]; omega)
    unfold textS
    rw [List.length_append]
    rw [hXd] at this ⊢
    omega
  have z4 : (flagS f.last).length = 1 := by cases f.last <;> rfl
  have hparts : ¬ (f.call < 0 ∨ f.pos < 0) → encF f = numS f.call ++ (numS f.pos ++ (textS X.data.toList ++ flagS f.last)) := fun h => by rw [enc_parts h, hXd]
  have hnone : (f.call < 0 ∨ f.pos < 0) → encF f = [] := fun h => by unfold encF; rw [if_pos h]
  rw [frV_of2 f hX]
  obtain ⟨B1, hB1⟩ : ∃ B : ByteArray, ⟨(numS f.call).toArray⟩ = B := ⟨_, rfl⟩
  obtain ⟨B2, hB2⟩ : ∃ B : ByteArray, ⟨(numS f.pos).toArray⟩ = B := ⟨_, rfl⟩
  obtain ⟨B3, hB3⟩ : ∃ B : ByteArray, ⟨(textS X.data.toList).toArray⟩ = B := ⟨_, rfl⟩
  obtain ⟨B4, hB4⟩ : ∃ B : ByteArray, ⟨(flagS f.last).toArray⟩ = B := ⟨_, rfl⟩
  rw [hB1] at cN1
  rw [hB2] at cN2
  rw [hB3] at cT
  rw [hB4] at cF
  have y1 : B1.size ≤ 9 := by rw [← hB1, Lib.size_eq]; exact z1
  have y2 : B2.size ≤ 9 := by rw [← hB2, Lib.size_eq]; exact z2
  have y3 : B3.size ≤ 9 + 1048576 := by rw [← hB3, Lib.size_eq]; exact z3
  have y4 : B4.size = 1 := by rw [← hB4, Lib.size_eq]; exact z4
  have hcat : ¬ (f.call < 0 ∨ f.pos < 0) → encF f = B1.data.toList ++ (B2.data.toList ++ (B3.data.toList ++ B4.data.toList)) := fun h => by rw [hparts h, ← hB1, ← hB2, ← hB3, ← hB4]
  obtain ⟨w0, hw0⟩ : ∃ w0, w.alloc (.cells #[.int .i64 f.call, .int .i64 f.pos, .string X, .bool f.last] 29) = w0 := ⟨_, rfl⟩
  have hb0 : Below w.heap.size w w0 := hw0 ▸ (Below.refl _ _).alloc (Nat.le_refl _) _
  have hr0 : w0.heap[w.heap.size]? = some (.cells #[.int .i64 f.call, .int .i64 f.pos, .string X, .bool f.last] 29 (0, 0)) := hw0 ▸ heap_alloc_new w _
  obtain ⟨R, hR⟩ : ∃ R, w.heap.size = R := ⟨_, rfl⟩
  rw [hR] at hr0
  have B0 := Lib.hid hb0
  have c0 := (row_cell (j := 0) hr0).trans rfl
  have c1 := (row_cell (j := 1) hr0).trans rfl
  have c2 := (row_cell (j := 2) hr0).trans rfl
  have c3 := (row_cell (j := 3) hr0).trans rfl
  have D1 := Lib.hid (reg_of (w := w0) (fun W _ => cN1 W))
  have D2 := Lib.hid (reg_of (w := w0) (fun W _ => cN2 W))
  have D3 := Lib.hid (reg_of (w := w0) (fun W _ => cT W))
  have D4 := Lib.hid (reg_of (w := w0) (fun W _ => cF W))
  have HCat := Lib.hid hcat
  have HNone := Lib.hid hnone
  obtain ⟨E, hE⟩ : ∃ E, encF f = E := ⟨_, rfl⟩
  rw [hE] at HCat HNone ⊢
  obtain ⟨cl, pos, tx, last⟩ := f
  simp only at *
  clear hparts hcat hnone hE hr0 hb0 hX hXd cN1 cN2 cT cF z1 z2 z3 z4 hB1 hB2 hB3 hB4
  by_cases h1 : cl < 0
  · go_enter Try.func25, Try.ntmps25
    repeat (first | go_skip | go_guarded | go_step | go_upon)
    go_ret
    exact ⟨by rw [HNone.out (.inl h1)]; rfl, B0.out⟩
  · by_cases h2 : pos < 0
    · go_enter Try.func25, Try.ntmps25
      repeat (first | go_skip | go_guarded | go_step | go_upon)
      go_ret
      exact ⟨by rw [HNone.out (.inr h2)]; rfl, B0.out⟩
    · go_enter Try.func25, Try.ntmps25
      repeat (first | go_skip | go_guarded | go_step | go_upon)
      have r0 := cell_regrown c0
      have r1 := cell_regrown c1
      have r2 := cell_regrown c2
      have r3 := cell_regrown c3
      with_reducible refine QT.region_tail 12 (by kernel_rfl) (by kernel_rfl) ?_
      simp only [List.take_succ_cons, List.take_zero, List.drop_succ_cons, List.drop_zero]
      repeat (go_big_quiet_step (first | (go_at_call_of 39 (Value.int IntKind.i64 cl); exact D1.out _ _) | (go_at_call_of 39 (Value.int IntKind.i64 pos); exact D2.out _ _) | (go_at_call 40; exact D3.out _ _) | (go_at_call 41; exact D4.out _ _)))
      refine wpQuiet_nil ?_
      intro _ hw'
      obtain ⟨⟨dq, osq⟩, hw''⟩ := hw'
      subst hw''
      have W5 : Hid (Below w0.heap.size w0 (Go.Sort.grow (redrawn w0 dq) osq)) := Lib.hid (below_regrown w0 dq osq)
      generalize Go.Sort.grow (redrawn w0 dq) osq = w5 at W5 ⊢
      have B5 := Lib.hid (Below.trans B0.out (W5.out.mono B0.out.size))
      have r6 := heap_alloc_new w5 (.cells #[.string B1, .string B2, .string B3, .string B4] 9)
      have CA := Lib.hid (all_four B1 B2 B3 B4 w5.heap.size _ ((row_cell (j := 0) r6).trans rfl) ((row_cell (j := 1) r6).trans rfl) ((row_cell (j := 2) r6).trans rfl) ((row_cell (j := 3) r6).trans rfl) (by omega))
      clear r0 r1 r2 r3 r6
      repeat (first | (go_at_call 38; fail) | go_skip | go_guarded | go_step | go_upon)
      refine CA.out.mono ?_
      rintro r w7 ⟨rfl, hb⟩
      simp only []
      have B7 := Lib.hid ((B5.out.alloc B5.out.size _).trans (hb.mono (B5.out.alloc B5.out.size _).size))
      clear hb CA
      repeat (first | go_skip | go_guarded | go_step | go_upon)
      go_ret
      exact ⟨by rw [HCat.out (by omega)]; rfl, B7.out⟩
end MX
end Go.Proofs.Ytdkfoakmjeealaa
