/- Layer 16: the contract of the document's Encode. -/
import Derived.Test.YtdkfoakmjeealaaQMxEnc
set_option linter.all false
set_option maxRecDepth 100000
set_option maxHeartbeats 25600000
namespace Go.Proofs.Ytdkfoakmjeealaa
open Go.RowKit Go.Lib Go.BigFrame
namespace MX
open CP AP OM

set_option maxRecDepth 100000 in
set_option maxHeartbeats 6400000 in
theorem renc_any (f : Fr) (w : World) (hc : f.call < 2 ^ 63) (hp : f.pos < 2 ^ 63) (ht : f.text.length ≤ 1048576) :
    Calls Try.prog 28 #[frV f] w fun r w' => r = .returned (.string ⟨(encF f).toArray⟩) ∧ Below w.heap.size w w' := by
  obtain ⟨X, hX⟩ : ∃ X : ByteArray, ⟨f.text.toArray⟩ = X := ⟨_, rfl⟩
  have hXd : X.data.toList = f.text := by rw [← hX]
  have hXz : X.size = f.text.length := by rw [Lib.size_eq, hXd]
  have cN1 := fun W => (CX.rnum_any f.call W hc).mono (fun r w' h => bytes_post h)
  have cN2 := fun W => (CX.rnum_any f.pos W hp).mono (fun r w' h => bytes_post h)
  have cT := fun W => (CX.rtext_any X W (by have := CX.nm_nine (n := X.size) (by omega); unfold maxLen; omega)).mono (fun r w' h => bytes_post h)
  have cF := fun W => (CX.rflag_any f.last W).mono (fun r w' h => bytes_post h)
  have z1 := CX.numS_nine hc
  have z2 := CX.numS_nine hp
  have z3 : (textS X.data.toList).length ≤ 9 + 1048576 := by
    have := CX.nm_nine (n := X.data.toList.length) (by rw [hXd]; omega)
    unfold textS
    rw [List.length_append]
    rw [hXd] at this ⊢
    omega
  have z4 : (flagS f.last).length = 1 := by cases f.last <;> rfl
  have hparts : ¬ (f.call < 0 ∨ f.pos < 0) → encF f = numS f.call ++ (numS f.pos ++ (textS X.data.toList ++ flagS f.last)) := fun h => by rw [enc_parts h, hXd]
  have hnone : (f.call < 0 ∨ f.pos < 0) → encF f = [] := fun h => by unfold encF; rw [if_pos h]
  rw [frV_of2 f hX]
  obtain ⟨B1, hB1⟩ : ∃ B : ByteArray, ⟨(numS f.call).toArray⟩ = B := ⟨_, rfl⟩
  obtain ⟨B2, hB2⟩ : ∃ B : ByteArray, ⟨(numS f.pos).toArray⟩ = B := ⟨_, rfl⟩
  obtain ⟨B3, hB3⟩ : ∃ B : ByteArray, ⟨(textS X.data.toList).toArray⟩ = B := ⟨_, rfl⟩
  obtain ⟨B4, hB4⟩ : ∃ B : ByteArray, ⟨(flagS f.last).toArray⟩ = B := ⟨_, rfl⟩
  rw [hB1] at cN1
  rw [hB2] at cN2
  rw [hB3] at cT
  rw [hB4] at cF
  have y1 : B1.size ≤ 9 := by rw [← hB1, Lib.size_eq]; exact z1
  have y2 : B2.size ≤ 9 := by rw [← hB2, Lib.size_eq]; exact z2
  have y3 : B3.size ≤ 9 + 1048576 := by rw [← hB3, Lib.size_eq]; exact z3
  have y4 : B4.size = 1 := by rw [← hB4, Lib.size_eq]; exact z4
  have hcat : ¬ (f.call < 0 ∨ f.pos < 0) → encF f = B1.data.toList ++ (B2.data.toList ++ (B3.data.toList ++ B4.data.toList)) := fun h => by rw [hparts h, ← hB1, ← hB2, ← hB3, ← hB4]
  obtain ⟨w0, hw0⟩ : ∃ w0, w.alloc (.cells #[.int .i64 f.call, .int .i64 f.pos, .string X, .bool f.last] 29) = w0 := ⟨_, rfl⟩
  have hb0 : Below w.heap.size w w0 := hw0 ▸ (Below.refl _ _).alloc (Nat.le_refl _) _
  have hr0 : w0.heap[w.heap.size]? = some (.cells #[.int .i64 f.call, .int .i64 f.pos, .string X, .bool f.last] 29 (0, 0)) := hw0 ▸ heap_alloc_new w _
  obtain ⟨R, hR⟩ : ∃ R, w.heap.size = R := ⟨_, rfl⟩
  rw [hR] at hr0
  have B0 := Lib.hid hb0
  have c0 := (row_cell (j := 0) hr0).trans rfl
  have c1 := (row_cell (j := 1) hr0).trans rfl
  have c2 := (row_cell (j := 2) hr0).trans rfl
  have c3 := (row_cell (j := 3) hr0).trans rfl
  have D1 := Lib.hid (reg_of (w := w0) (fun W _ => cN1 W))
  have D2 := Lib.hid (reg_of (w := w0) (fun W _ => cN2 W))
  have D3 := Lib.hid (reg_of (w := w0) (fun W _ => cT W))
  have D4 := Lib.hid (reg_of (w := w0) (fun W _ => cF W))
  have HCat := Lib.hid hcat
  have HNone := Lib.hid hnone
  obtain ⟨E, hE⟩ : ∃ E, encF f = E := ⟨_, rfl⟩
  rw [hE] at HCat HNone ⊢
  obtain ⟨cl, pos, tx, last⟩ := f
  simp only at *
  clear hparts hcat hnone hE hr0 hb0 hX hXd cN1 cN2 cT cF z1 z2 z3 z4 hB1 hB2 hB3 hB4
  by_cases h1 : cl < 0
  · go_enter Try.func28, Try.ntmps28
    repeat (first | go_skip | go_guarded | go_step | go_upon)
    go_ret
    exact ⟨by rw [HNone.out (.inl h1)]; rfl, B0.out⟩
  · by_cases h2 : pos < 0
    · go_enter Try.func28, Try.ntmps28
      repeat (first | go_skip | go_guarded | go_step | go_upon)
      go_ret
      exact ⟨by rw [HNone.out (.inr h2)]; rfl, B0.out⟩
    · go_enter Try.func28, Try.ntmps28
      repeat (first | go_skip | go_guarded | go_step | go_upon)
      have r0 := cell_regrown c0
      have r1 := cell_regrown c1
      have r2 := cell_regrown c2
      have r3 := cell_regrown c3
      with_reducible refine wp_region_quiet_below (by kernel_rfl) (by kernel_rfl) ?_
      repeat (go_big_quiet_step (first | (go_at_call_of 52 (Value.int IntKind.i64 cl); exact D1.out _ _) | (go_at_call_of 52 (Value.int IntKind.i64 pos); exact D2.out _ _) | (go_at_call 53; exact D3.out _ _) | (go_at_call 54; exact D4.out _ _)))
      refine wpQuiet_nil ?_
      intro _ hw'
      obtain ⟨⟨dq, osq⟩, hw''⟩ := hw'
      subst hw''
      have W5 : Hid (Below w0.heap.size w0 (Go.Sort.grow (redrawn w0 dq) osq)) := Lib.hid (below_regrown w0 dq osq)
      generalize Go.Sort.grow (redrawn w0 dq) osq = w5 at W5 ⊢
      have B5 := Lib.hid (Below.trans B0.out (W5.out.mono B0.out.size))
      clear r0 r1 r2 r3
      repeat (first | go_skip | go_guarded | go_step | go_upon)
      go_ret
      refine ⟨?_, B5.out⟩
      rw [HCat.out (by omega)]
      have e : B1 ++ B2 ++ B3 ++ B4 = ⟨(B1.data.toList ++ (B2.data.toList ++ (B3.data.toList ++ B4.data.toList))).toArray⟩ := by
        rw [bytes_is (B1 ++ B2 ++ B3 ++ B4)]
        simp [ByteArray.data_append]
      rw [← e]
      rfl
end MX
end Go.Proofs.Ytdkfoakmjeealaa
