/- Layer 16: the walk of MuxFrames. -/
import Derived.Test.YtdkfoakmjeealaaQMxRdec
import Derived.Test.YtdkfoakmjeealaaQMxAw
set_option linter.all false
set_option maxRecDepth 100000
set_option maxHeartbeats 25600000
namespace Go.Proofs.Ytdkfoakmjeealaa
open Go.RowKit Go.Lib Go.BigFrame
namespace MX
open CP AP OM FP

theorem emp_list : (⟨#[]⟩ : ByteArray).toList = [] := by rw [Lib.toList_data]
theorem enc_ne {f : Fr} (h : ¬ (f.call < 0 ∨ f.pos < 0)) : encF f ≠ [] := by
  rw [enc_parts h]
  intro e
  have h1 := (List.append_eq_nil_iff.1 (List.append_eq_nil_iff.1 (List.append_eq_nil_iff.1 e).2).2).2
  cases hl : f.last <;> rw [hl] at h1 <;> cases h1
set_option maxRecDepth 100000 in
set_option maxHeartbeats 12800000 in
theorem frames_any (f : Fr) (s : ByteArray) (w : World) (hc : f.call < 2 ^ 63) (hp : f.pos < 2 ^ 63) (ht : f.text.length ≤ 1048576) (hs : s.size ≤ 1048576) :
    Calls Try.prog 4 #[frV f, .string s] w fun r w' => r = .returned (.bool true) ∧ Below w.heap.size w w' := by
  have cE := fun W => enc_any f W hc hp ht
  have cE2 := fun W => renc_any f W hc hp ht
  have cD := fun W => dec_any s W (by omega)
  have cD2 := fun W => rdec_any s W (by omega)
  obtain ⟨TB, hTB⟩ : ∃ B : ByteArray, ⟨(encF f).toArray⟩ = B := ⟨_, rfl⟩
  have hTBd : TB.data.toList = encF f := by rw [← hTB]
  have hencl : (encF f).length ≤ 4294967296 := by
    unfold encF
    split
    · simp
    · have z1 := CX.numS_nine hc
      have z2 := CX.numS_nine hp
      have z3 : (textS f.text).length ≤ 9 + 1048576 := by
        have := CX.nm_nine (n := f.text.length) (by omega)
        unfold textS
        rw [List.length_append]
        omega
      have z4 : (flagS f.last).length = 1 := by cases f.last <;> rfl
      simp only [List.length_append]
      omega
  have cDB := fun W => dec_any TB W (by rw [Lib.size_eq, hTBd]; exact hencl)
  rw [hTBd] at cDB
  rw [hTB] at cE cE2
  have hback : ¬ (f.call < 0 ∨ f.pos < 0) → f.text.length ≤ 65536 → decF (encF f) = some f := fun h h2 => dec_enc f (by omega) (by omega) hc hp h2
  -- what was read of s
  obtain ⟨g, hg⟩ : ∃ g, decV s.data.toList = g := ⟨_, rfl⟩
  obtain ⟨ge, hge⟩ : ∃ ge, decE s.data.toList = ge := ⟨_, rfl⟩
  rw [hg, hge] at cD cD2
  have hgood : ge = 0 → ∀ W, Calls Try.prog 25 #[frV g] W fun r w' => r = .returned (.string s) ∧ Below W.heap.size W w' := fun h0 W => by
    cases hd : decF s.data.toList with
    | none =>
      unfold decE at hge
      rw [hd] at hge
      rw [← hge] at h0
      exact absurd h0 (by decide)
    | some f2 =>
      have : g = f2 := by rw [← hg]; unfold decV; rw [hd]; rfl
      subst this
      obtain ⟨e1, e2, e3, e4⟩ := enc_dec hd
      have h := enc_any g W e3 e4 (by omega)
      rw [e1, ← bytes_is s] at h
      exact h
  obtain ⟨GX, hGX⟩ : ∃ X : ByteArray, ⟨g.text.toArray⟩ = X := ⟨_, rfl⟩
  obtain ⟨X, hX⟩ : ∃ X : ByteArray, ⟨f.text.toArray⟩ = X := ⟨_, rfl⟩
  have hXz : X.size = f.text.length := by rw [← hX, Lib.size_eq]
  have eg := frV_of2 g hGX
  have ef := frV_of2 f hX
  rw [eg] at cD cD2 hgood
  rw [ef] at cE cE2 ⊢
  have CE := Lib.hid cE
  have CE2 := Lib.hid cE2
  have CD := Lib.hid cD
  have CD2 := Lib.hid cD2
  have CDB := Lib.hid cDB
  have HGood := Lib.hid hgood
  have HBack := Lib.hid hback
  have HEf := Lib.hid ef
  have hneg := fun h : ¬ (f.call < 0 ∨ f.pos < 0) => enc_ne h
  have HNeg := Lib.hid hneg
  have HTBd := Lib.hid hTBd
  have hemp : (f.call < 0 ∨ f.pos < 0) → encF f = [] := fun h => by unfold encF; rw [if_pos h]
  have HEmp := Lib.hid hemp
  obtain ⟨w0, hw0⟩ : ∃ w0, w.alloc (.cells #[.int .i64 f.call, .int .i64 f.pos, .string X, .bool f.last] 29) = w0 := ⟨_, rfl⟩
  have hb0 : Below w.heap.size w w0 := hw0 ▸ (Below.refl _ _).alloc (Nat.le_refl _) _
  have hr0 : w0.heap[w.heap.size]? = some (.cells #[.int .i64 f.call, .int .i64 f.pos, .string X, .bool f.last] 29 (0, 0)) := hw0 ▸ heap_alloc_new w _
  obtain ⟨R, hR⟩ : ∃ R, w.heap.size = R := ⟨_, rfl⟩
  rw [hR] at hr0
  have CA := Lib.hid (awake_any w0)
  have B0 := Lib.hid hb0
  have R0 := Lib.hid hr0
  have q1 : (TB.toList == TB.toList) = true := by simp
  have q2 : (s.toList == s.toList) = true := by simp
  have q3 := eq_fr g.call g.pos GX g.last
  have q4 := eq_fr f.call f.pos X f.last
  have q5 : ((ge : Int) == (ge : Int)) = true := by simp
  generalize g.call = gc at *
  generalize g.pos = gp at *
  generalize g.last = gl at *
  obtain ⟨tl, htl⟩ : ∃ tl, f.text.length = tl := ⟨_, rfl⟩
  rw [htl] at hXz
  have HTl := Lib.hid htl
  obtain ⟨fc, hfc⟩ : ∃ fc, f.call = fc := ⟨_, rfl⟩
  obtain ⟨fp, hfp⟩ : ∃ fp, f.pos = fp := ⟨_, rfl⟩
  obtain ⟨fl, hfl⟩ : ∃ fl, f.last = fl := ⟨_, rfl⟩
  rw [hfc, hfp, hfl] at CE CE2 hr0 q4 R0 HEf hw0 ⊢
  have HFc := Lib.hid hfc
  have HFp := Lib.hid hfp
  clear cE cE2 cD cD2 cDB hgood hback hg hge hGX hX eg ef hTB hTBd hencl hneg hemp hb0 hr0 htl hfc hfp hfl
  go_enter Try.func4, Try.ntmps4
  repeat (first | (go_at_call 6; fail) | go_skip | go_guarded | go_step | go_upon)
  refine CA.out.mono ?_
  rintro r w1 ⟨rfl, hb⟩
  simp only []
  have B1 := Lib.hid (B0.out.trans (hb.mono B0.out.size))
  have R1 := Lib.hid ((hb.block R (Array.getElem?_eq_some_iff.1 R0.out).1).trans R0.out)
  clear hb
  have c0 := (row_cell (j := 0) R1.out).trans rfl
  have c1 := (row_cell (j := 1) R1.out).trans rfl
  have c2 := (row_cell (j := 2) R1.out).trans rfl
  have c3 := (row_cell (j := 3) R1.out).trans rfl
  repeat (first | (go_at_call 25; fail) | go_skip | go_guarded | go_step | go_upon)
  refine (CE.out _).mono ?_
  rintro r w2 ⟨rfl, hb⟩
  simp only []
  have B2 := Lib.hid (B1.out.trans (hb.mono B1.out.size))
  have R2 := Lib.hid ((hb.block R (Array.getElem?_eq_some_iff.1 R1.out).1).trans R1.out)
  clear hb c0 c1 c2 c3
  repeat (first | (go_at_call 26; fail) | go_skip | go_guarded | go_step | go_upon)
  refine (CD.out _).mono ?_
  rintro r w3 ⟨rfl, hb⟩
  simp only []
  have B3 := Lib.hid (B2.out.trans (hb.mono B2.out.size))
  have R3 := Lib.hid ((hb.block R (Array.getElem?_eq_some_iff.1 R2.out).1).trans R2.out)
  clear hb
  obtain ⟨w4, hw4⟩ : ∃ w4, w3.alloc (.cells #[.int .i64 gc, .int .i64 gp, .string GX, .bool gl] 29) = w4 := ⟨_, rfl⟩
  have b4 : Below w3.heap.size w3 w4 := hw4 ▸ (Below.refl _ _).alloc (Nat.le_refl _) _
  have g4 : w4.heap[w3.heap.size]? = some (.cells #[.int .i64 gc, .int .i64 gp, .string GX, .bool gl] 29 (0, 0)) := hw4 ▸ heap_alloc_new w3 _
  obtain ⟨G, hG⟩ : ∃ G, w3.heap.size = G := ⟨_, rfl⟩
  rw [hG] at g4
  have B4 := Lib.hid (B3.out.trans (b4.mono B3.out.size))
  have R4 := Lib.hid ((b4.block R (Array.getElem?_eq_some_iff.1 R3.out).1).trans R3.out)
  have G4 := Lib.hid g4
  clear b4 g4
  repeat (first | (go_at_call 27; fail) | go_skip | go_guarded | go_step | go_upon)
  refine (CD2.out _).mono ?_
  rintro r w5 ⟨rfl, hb⟩
  simp only []
  have B5 := Lib.hid (B4.out.trans (hb.mono B4.out.size))
  have R5 := Lib.hid ((hb.block R (Array.getElem?_eq_some_iff.1 R4.out).1).trans R4.out)
  have G5 := Lib.hid ((hb.block G (Array.getElem?_eq_some_iff.1 G4.out).1).trans G4.out)
  clear hb hw4 hG
  obtain ⟨w6, hw6⟩ : ∃ w6, w5.alloc (.cells #[.int .i64 gc, .int .i64 gp, .string GX, .bool gl] 29) = w6 := ⟨_, rfl⟩
  have b6 : Below w5.heap.size w5 w6 := hw6 ▸ (Below.refl _ _).alloc (Nat.le_refl _) _
  have g6 : w6.heap[w5.heap.size]? = some (.cells #[.int .i64 gc, .int .i64 gp, .string GX, .bool gl] 29 (0, 0)) := hw6 ▸ heap_alloc_new w5 _
  obtain ⟨H, hH⟩ : ∃ H, w5.heap.size = H := ⟨_, rfl⟩
  rw [hH] at g6
  have B6 := Lib.hid (B5.out.trans (b6.mono B5.out.size))
  have R6 := Lib.hid ((b6.block R (Array.getElem?_eq_some_iff.1 R5.out).1).trans R5.out)
  have G6 := Lib.hid ((b6.block G (Array.getElem?_eq_some_iff.1 G5.out).1).trans G5.out)
  have H6 := Lib.hid g6
  clear b6 g6
  have c0 := (row_cell (j := 0) R6.out).trans rfl
  have c1 := (row_cell (j := 1) R6.out).trans rfl
  have c2 := (row_cell (j := 2) R6.out).trans rfl
  have c3 := (row_cell (j := 3) R6.out).trans rfl
  repeat (first | (go_at_call 28; fail) | go_skip | go_guarded | go_step | go_upon)
  refine (CE2.out _).mono ?_
  rintro r w7 ⟨rfl, hb⟩
  simp only []
  have B7 := Lib.hid (B6.out.trans (hb.mono B6.out.size))
  have R7 := Lib.hid ((hb.block R (Array.getElem?_eq_some_iff.1 R6.out).1).trans R6.out)
  have G7 := Lib.hid ((hb.block G (Array.getElem?_eq_some_iff.1 G6.out).1).trans G6.out)
  have H7 := Lib.hid ((hb.block H (Array.getElem?_eq_some_iff.1 H6.out).1).trans H6.out)
  clear hb hw6 hH c0 c1 c2 c3
  have g0 := (row_cell (j := 0) G7.out).trans rfl
  have g1 := (row_cell (j := 1) G7.out).trans rfl
  have g2 := (row_cell (j := 2) G7.out).trans rfl
  have g3 := (row_cell (j := 3) G7.out).trans rfl
  have h0 := (row_cell (j := 0) H7.out).trans rfl
  have h1 := (row_cell (j := 1) H7.out).trans rfl
  have h2 := (row_cell (j := 2) H7.out).trans rfl
  have h3 := (row_cell (j := 3) H7.out).trans rfl
  by_cases hge : ge = 0
  · subst hge
    have CG := Lib.hid (HGood.out rfl)
    repeat (first | (go_at_call 25; fail) | go_skip | go_guarded | go_step | go_upon)
    refine (CG.out _).mono ?_
    rintro r w8 ⟨rfl, hb⟩
    simp only []
    have BZ := Lib.hid (B7.out.trans (hb.mono B7.out.size))
    have RZ := Lib.hid ((hb.block R (Array.getElem?_eq_some_iff.1 R7.out).1).trans R7.out)
    clear hb g0 g1 g2 g3 h0 h1 h2 h3
    have c0 := (row_cell (j := 0) RZ.out).trans rfl
    have c1 := (row_cell (j := 1) RZ.out).trans rfl
    have c2 := (row_cell (j := 2) RZ.out).trans rfl
    have c3 := (row_cell (j := 3) RZ.out).trans rfl
    by_cases hneg : fc < 0 ∨ fp < 0
    · have hTe : TB = ⟨#[]⟩ := bytes_eq (by rw [HTBd.out]; exact HEmp.out (by rw [HFc.out, HFp.out]; exact hneg))
      have hq : (TB.toList == []) = true := by rw [hTe, emp_list]; rfl
      have hqe : (TB.toList == (⟨#[]⟩ : ByteArray).toList) = true := by rw [hTe, emp_list]; rfl
      clear hTe
      repeat (first | go_skip | go_guarded | go_step | go_upon)
      go_ret
      exact ⟨rfl, BZ.out⟩
    · have hTne : TB.data.toList ≠ [] := by rw [HTBd.out]; exact HNeg.out (by rw [HFc.out, HFp.out]; exact hneg)
      have hq : (TB.toList == []) = false := by rw [Lib.toList_data]; simpa using hTne
      have hqe : (TB.toList == (⟨#[]⟩ : ByteArray).toList) = false := by
        rw [emp_list]
        exact hq
      by_cases htl : 65536 < tl
      · have htz : (65536 : Int) < tl := by omega
        clear hTne
        repeat (first | go_skip | go_guarded | go_step | go_upon)
        go_ret
        exact ⟨rfl, BZ.out⟩
      · have htz : ¬ (65536 : Int) < tl := by omega
        have hde := HBack.out (by rw [HFc.out, HFp.out]; exact hneg) (by rw [HTl.out]; omega)
        have e1 : frV (decV (encF f)) = .agg #[.int .i64 fc, .int .i64 fp, .string X, .bool fl] := by
          unfold decV
          rw [hde]
          exact HEf.out
        have e2 : decE (encF f) = 0 := by unfold decE; rw [hde]; rfl
        have cdb := CDB.out
        rw [e1, e2] at cdb
        have CDb := Lib.hid cdb
        clear cdb e1 e2 hde hTne hneg
        repeat (first | (go_at_call 26; fail) | go_skip | go_guarded | go_step | go_upon)
        refine (CDb.out _).mono ?_
        rintro r wb ⟨rfl, hb⟩
        simp only []
        have BB := Lib.hid (BZ.out.trans (hb.mono BZ.out.size))
        have RB := Lib.hid ((hb.block R (Array.getElem?_eq_some_iff.1 RZ.out).1).trans RZ.out)
        clear hb c0 c1 c2 c3
        obtain ⟨wc, hwc⟩ : ∃ wc, wb.alloc (.cells #[.int .i64 fc, .int .i64 fp, .string X, .bool fl] 29) = wc := ⟨_, rfl⟩
        have bc : Below wb.heap.size wb wc := hwc ▸ (Below.refl _ _).alloc (Nat.le_refl _) _
        have gc' : wc.heap[wb.heap.size]? = some (.cells #[.int .i64 fc, .int .i64 fp, .string X, .bool fl] 29 (0, 0)) := hwc ▸ heap_alloc_new wb _
        have RC := (bc.block R (Array.getElem?_eq_some_iff.1 RB.out).1).trans RB.out
        have BC := Lib.hid (BB.out.trans (bc.mono BB.out.size))
        have c0 := (row_cell (j := 0) RC).trans rfl
        have c1 := (row_cell (j := 1) RC).trans rfl
        have c2 := (row_cell (j := 2) RC).trans rfl
        have c3 := (row_cell (j := 3) RC).trans rfl
        have d0 := (row_cell (j := 0) gc').trans rfl
        have d1 := (row_cell (j := 1) gc').trans rfl
        have d2 := (row_cell (j := 2) gc').trans rfl
        have d3 := (row_cell (j := 3) gc').trans rfl
        clear bc gc' RC
        repeat (first | go_skip | go_guarded | go_step | go_upon)
        go_ret
        exact ⟨rfl, BC.out⟩
  · have hgz : ((ge : Int) == 0) = false := by simpa using hge
    have BZ := B7
    have RZ := R7
    have c0 := (row_cell (j := 0) RZ.out).trans rfl
    have c1 := (row_cell (j := 1) RZ.out).trans rfl
    have c2 := (row_cell (j := 2) RZ.out).trans rfl
    have c3 := (row_cell (j := 3) RZ.out).trans rfl
    by_cases hneg : fc < 0 ∨ fp < 0
    · have hTe : TB = ⟨#[]⟩ := bytes_eq (by rw [HTBd.out]; exact HEmp.out (by rw [HFc.out, HFp.out]; exact hneg))
      have hq : (TB.toList == []) = true := by rw [hTe, emp_list]; rfl
      have hqe : (TB.toList == (⟨#[]⟩ : ByteArray).toList) = true := by rw [hTe, emp_list]; rfl
      clear hTe
      repeat (first | go_skip | go_guarded | go_step | go_upon)
      go_ret
      exact ⟨rfl, BZ.out⟩
    · have hTne : TB.data.toList ≠ [] := by rw [HTBd.out]; exact HNeg.out (by rw [HFc.out, HFp.out]; exact hneg)
      have hq : (TB.toList == []) = false := by rw [Lib.toList_data]; simpa using hTne
      have hqe : (TB.toList == (⟨#[]⟩ : ByteArray).toList) = false := by
        rw [emp_list]
        exact hq
      by_cases htl : 65536 < tl
      · have htz : (65536 : Int) < tl := by omega
        clear hTne
        repeat (first | go_skip | go_guarded | go_step | go_upon)
        go_ret
        exact ⟨rfl, BZ.out⟩
      · have htz : ¬ (65536 : Int) < tl := by omega
        have hde := HBack.out (by rw [HFc.out, HFp.out]; exact hneg) (by rw [HTl.out]; omega)
        have e1 : frV (decV (encF f)) = .agg #[.int .i64 fc, .int .i64 fp, .string X, .bool fl] := by
          unfold decV
          rw [hde]
          exact HEf.out
        have e2 : decE (encF f) = 0 := by unfold decE; rw [hde]; rfl
        have cdb := CDB.out
        rw [e1, e2] at cdb
        have CDb := Lib.hid cdb
        clear cdb e1 e2 hde hTne hneg
        repeat (first | (go_at_call 26; fail) | go_skip | go_guarded | go_step | go_upon)
        refine (CDb.out _).mono ?_
        rintro r wb ⟨rfl, hb⟩
        simp only []
        have BB := Lib.hid (BZ.out.trans (hb.mono BZ.out.size))
        have RB := Lib.hid ((hb.block R (Array.getElem?_eq_some_iff.1 RZ.out).1).trans RZ.out)
        clear hb c0 c1 c2 c3
        obtain ⟨wc, hwc⟩ : ∃ wc, wb.alloc (.cells #[.int .i64 fc, .int .i64 fp, .string X, .bool fl] 29) = wc := ⟨_, rfl⟩
        have bc : Below wb.heap.size wb wc := hwc ▸ (Below.refl _ _).alloc (Nat.le_refl _) _
        have gc' : wc.heap[wb.heap.size]? = some (.cells #[.int .i64 fc, .int .i64 fp, .string X, .bool fl] 29 (0, 0)) := hwc ▸ heap_alloc_new wb _
        have RC := (bc.block R (Array.getElem?_eq_some_iff.1 RB.out).1).trans RB.out
        have BC := Lib.hid (BB.out.trans (bc.mono BB.out.size))
        have c0 := (row_cell (j := 0) RC).trans rfl
        have c1 := (row_cell (j := 1) RC).trans rfl
        have c2 := (row_cell (j := 2) RC).trans rfl
        have c3 := (row_cell (j := 3) RC).trans rfl
        have d0 := (row_cell (j := 0) gc').trans rfl
        have d1 := (row_cell (j := 1) gc').trans rfl
        have d2 := (row_cell (j := 2) gc').trans rfl
        have d3 := (row_cell (j := 3) gc').trans rfl
        clear bc gc' RC
        repeat (first | go_skip | go_guarded | go_step | go_upon)
        go_ret
        exact ⟨rfl, BC.out⟩
end MX
end Go.Proofs.Ytdkfoakmjeealaa
