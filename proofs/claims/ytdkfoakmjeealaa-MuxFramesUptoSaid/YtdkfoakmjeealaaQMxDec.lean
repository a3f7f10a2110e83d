/- Layer 16: the contracts of Decode, the program's and the document's. -/
import Derived.Test.YtdkfoakmjeealaaQMxRenc
import Derived.Test.YtdkfoakmjeealaaQMxSend
set_option linter.all false
set_option maxRecDepth 100000
set_option maxHeartbeats 25600000
namespace Go.Proofs.Ytdkfoakmjeealaa
open Go.RowKit Go.Lib Go.BigFrame
namespace MX
open CP AP OM FP

def zeroF : Fr := ⟨0, 0, [], false⟩
theorem bytes_eq {u : ByteArray} {l : List UInt8} (h : u.data.toList = l) : u = ⟨l.toArray⟩ := by rw [← h]
def decV (s : List UInt8) : Fr := (decF s).getD zeroF
def decE (s : List UInt8) : Nat := if (decF s).isSome then 0 else 160
theorem rd_left {r : Rd} : (rNum r).2.1.length ≤ r.1.length := by
  unfold rNum
  split
  · exact Nat.le_refl _
  · split
    · exact Nat.le_refl _
    · show (r.1.drop _).length ≤ _
      rw [List.length_drop]
      omega
theorem tx_left {r : Rd} : (rTxt 65536 r).2.1.length ≤ r.1.length := by
  unfold rTxt
  split
  · exact Nat.le_refl _
  · split
    · exact Nat.le_refl _
    · show (r.1.drop _).length ≤ _
      rw [List.length_drop]
      omega
theorem fl_left {r : Rd} : (rFlag r).2.1.length ≤ r.1.length := by
  obtain ⟨l, e⟩ := r
  unfold rFlag
  split
  · exact Nat.le_refl _
  · cases l with
    | nil => exact Nat.le_refl _
    | cons b t =>
      simp only
      split
      · exact Nat.le_refl _
      · exact Nat.le_succ _
theorem dec_is (s : List UInt8) : decF s = if CR.endR (rFlag (rTxt 65536 (rNum (rNum (s, 0)).2).2).2).2 = 0 then some ⟨(rNum (s, 0)).1, (rNum (rNum (s, 0)).2).1, (rTxt 65536 (rNum (rNum (s, 0)).2).2).1, (rFlag (rTxt 65536 (rNum (rNum (s, 0)).2).2).2).1⟩ else none := rfl
theorem tx_le (r : Rd) : (rTxt 65536 r).1.length ≤ r.1.length := by
  unfold rTxt
  split
  · exact Nat.zero_le _
  · split
    · exact Nat.zero_le _
    · show ((r.1.drop _).take _).length ≤ _
      rw [List.length_take, List.length_drop]
      omega
set_option maxRecDepth 100000 in
set_option maxHeartbeats 6400000 in
theorem dec_any (s : ByteArray) (w : World) (hs : s.size ≤ 4294967296) :
    Calls Try.prog 26 #[.string s] w fun r w' => r = .returned (.tuple #[frV (decV s.data.toList), .int .i64 (decE s.data.toList : Nat)]) ∧ Below w.heap.size w w' := by
  have hsl : s.data.toList.length ≤ 4294967296 := by rw [← Lib.size_eq]; exact hs
  unfold decV decE
  rw [dec_is]
  obtain ⟨a, ha⟩ : ∃ a, rNum (s.data.toList, 0) = a := ⟨_, rfl⟩
  obtain ⟨b, hb⟩ : ∃ b, rNum a.2 = b := ⟨_, rfl⟩
  obtain ⟨c, hc⟩ : ∃ c, rTxt 65536 b.2 = c := ⟨_, rfl⟩
  obtain ⟨d, hd⟩ : ∃ d, rFlag c.2 = d := ⟨_, rfl⟩
  obtain ⟨e, he⟩ : ∃ e, CR.endR d.2 = e := ⟨_, rfl⟩
  rw [ha, hb, hc, hd, he]
  have la : a.2.1.length ≤ 4294967296 := by rw [← ha]; exact Nat.le_trans rd_left hsl
  have lb : b.2.1.length ≤ 4294967296 := by rw [← hb]; exact Nat.le_trans rd_left la
  have lc : c.2.1.length ≤ 4294967296 := by rw [← hc]; exact Nat.le_trans tx_left lb
  have ld : d.2.1.length ≤ 4294967296 := by rw [← hd]; exact Nat.le_trans fl_left lc
  have lt : c.1.length ≤ 4294967296 := by rw [← hc]; exact Nat.le_trans (tx_le _) lb
  have cN := fun W => CR.new_any s W
  have cA := fun bk W (h : CR.At bk (s.data.toList, 0) W) => CR.num_all bk (s.data.toList, 0) W h (by unfold maxLen; simp only; omega)
  have cB := fun bk W (h : CR.At bk a.2 W) => CR.num_all bk a.2 W h (by unfold maxLen; omega)
  have cC := fun bk W (h : CR.At bk b.2 W) => CR.text_all bk 65536 b.2 W h (by unfold maxLen; omega)
  have cD := fun bk W (h : CR.At bk c.2 W) => CR.flag_all bk c.2 W h (by unfold maxLen; omega)
  have cE := fun bk W (h : CR.At bk d.2 W) => CR.end_all bk d.2 W h (by unfold maxLen; omega)
  rw [ha] at cA
  rw [hb] at cB
  rw [hc] at cC
  rw [hd] at cD
  rw [he] at cE
  unfold CR.NPost at cA cB
  unfold CR.TPost at cC
  unfold CR.FPost at cD
  obtain ⟨X, hX⟩ : ∃ X : ByteArray, ⟨c.1.toArray⟩ = X := ⟨_, rfl⟩
  have hXz : X.size ≤ 4294967296 := by rw [← hX, Lib.size_eq]; exact lt
  rw [hX] at cC
  have cX := fun W => clone_any X W hXz
  have CN := Lib.hid cN
  have CA := Lib.hid cA
  have CB := Lib.hid cB
  have CC := Lib.hid cC
  have CD := Lib.hid cD
  have CE := Lib.hid cE
  have CX := Lib.hid cX
  obtain ⟨w0, hw0⟩ : ∃ w0, w.alloc (.cells #[.int .i64 0, .int .i64 0, .string ⟨#[]⟩, .bool false] 29) = w0 := ⟨_, rfl⟩
  have hb0 : Below w.heap.size w w0 := hw0 ▸ (Below.refl _ _).alloc (Nat.le_refl _) _
  have hr0 : w0.heap[w.heap.size]? = some (.cells #[.int .i64 0, .int .i64 0, .string ⟨#[]⟩, .bool false] 29 (0, 0)) := hw0 ▸ heap_alloc_new w _
  obtain ⟨R, hR⟩ : ∃ R, w.heap.size = R := ⟨_, rfl⟩
  rw [hR] at hr0
  have HR := Lib.hid hR
  have B0 := Lib.hid hb0
  have R0 := Lib.hid hr0
  obtain ⟨FV, hFV⟩ : ∃ FV, frV ((if e = 0 then some (Fr.mk (a.1 : Nat) (b.1 : Nat) c.1 d.1) else none).getD zeroF) = FV := ⟨_, rfl⟩
  obtain ⟨EE, hEE⟩ : ∃ EE : Nat, (if (if e = 0 then some (Fr.mk (a.1 : Nat) (b.1 : Nat) c.1 d.1) else none).isSome = true then 0 else 160) = EE := ⟨_, rfl⟩
  rw [hFV, hEE]
  have HFV := Lib.hid hFV
  have HEE := Lib.hid hEE
  have HFv : Hid (frV ⟨(a.1 : Nat), (b.1 : Nat), c.1, d.1⟩ = .agg #[.int .i64 (a.1 : Nat), .int .i64 (b.1 : Nat), .string X, .bool d.1]) := Lib.hid (by unfold frV txt; rw [hX])
  clear hFV hEE cN cA cB cC cD cE cX ha hb hc hd he hX hXz la lb lc ld lt hb0 hr0 hsl
  go_enter Try.func26, Try.ntmps26
  repeat (first | (go_at_call 42; fail) | go_skip | go_guarded | go_step | go_upon)
  refine (CN.out _).mono ?_
  rintro r w1 ⟨rfl, h1, hb1⟩
  simp only []
  obtain ⟨bk, hbk⟩ : ∃ bk, w0.heap.size = bk := ⟨_, rfl⟩
  rw [hbk] at h1 ⊢
  have hRb : R < bk := by rw [← hbk]; exact (Array.getElem?_eq_some_iff.1 R0.out).1
  have hRw : w.heap.size ≤ bk := by have := HR.out; omega
  have hne : ¬ R = bk := by omega
  have R1 := Lib.hid ((hb1.block R (Array.getElem?_eq_some_iff.1 R0.out).1).trans R0.out)
  have B1 := Lib.hid (B0.out.trans (hb1.mono B0.out.size))
  have A1 : Hid (CR.At bk (s.data.toList, 0) w1) := Lib.hid ⟨s, rfl, h1⟩
  clear h1 hb1 hbk
  have low : ∀ (W W' : World), w.heap.size ≤ W.heap.size → Out (· = bk) W W' → Below w.heap.size W W' := fun W W' hz h => h.below (fun k hk _ e => by omega) hz
  have LOW := Lib.hid low
  clear low
  repeat (first | (go_at_call 43; fail) | go_skip | go_guarded | go_step | go_upon)
  refine (CA.out _ _ A1.out).mono ?_
  rintro r w2 ⟨rfl, h2, ho2⟩
  simp only []
  have A2 := Lib.hid h2
  have R2 := Lib.hid (ho2.row R1.out hne)
  have B2 := Lib.hid (B1.out.trans (LOW.out _ _ B1.out.size ho2))
  clear h2 ho2
  repeat (first | (go_at_call 43; fail) | go_skip | go_guarded | go_step | go_upon)
  refine (CB.out _ _ A2.out).mono ?_
  rintro r w3 ⟨rfl, h3, ho3⟩
  simp only []
  have A3 := Lib.hid h3
  have R3 := Lib.hid (ho3.row R2.out hne)
  have B3 := Lib.hid (B2.out.trans (LOW.out _ _ B2.out.size ho3))
  clear h3 ho3
  repeat (first | (go_at_call 44; fail) | go_skip | go_guarded | go_step | go_upon)
  refine (CC.out _ _ A3.out).mono ?_
  rintro r w4 ⟨rfl, h4, ho4⟩
  simp only []
  have A4 := Lib.hid h4
  have R4 := Lib.hid (ho4.row R3.out hne)
  have B4 := Lib.hid (B3.out.trans (LOW.out _ _ B3.out.size ho4))
  clear h4 ho4
  repeat (first | (go_at_call 45; fail) | go_skip | go_guarded | go_step | go_upon)
  refine (CD.out _ _ A4.out).mono ?_
  rintro r w5 ⟨rfl, h5, ho5⟩
  simp only []
  have A5 := Lib.hid h5
  have R5 := Lib.hid (ho5.row R4.out hne)
  have B5 := Lib.hid (B4.out.trans (LOW.out _ _ B4.out.size ho5))
  clear h5 ho5
  repeat (first | (go_at_call 46; fail) | go_skip | go_guarded | go_step | go_upon)
  refine (CE.out _ _ A5.out).mono ?_
  rintro r w6 ⟨rfl, rfl⟩
  simp only []
  by_cases hee : e = 0
  · subst hee
    have hFV := HFV.out
    have hEE := HEE.out
    rw [if_pos rfl] at hFV hEE
    simp only [Option.getD_some, Option.isSome_some, if_true] at hFV hEE
    rw [HFv.out] at hFV
    subst hFV hEE
    repeat (first | (go_at_call 47; fail) | go_skip | go_guarded | go_step | go_upon)
    refine (CX.out _).mono ?_
    rintro r w7 ⟨rfl, hb7⟩
    simp only []
    have R7 := Lib.hid ((hb7.block R (Array.getElem?_eq_some_iff.1 R5.out).1).trans R5.out)
    have B7 := Lib.hid (B5.out.trans (hb7.mono B5.out.size))
    clear hb7
    have x0 := (row_cell (j := 0) R7.out).trans rfl
    have x1 := (row_cell (j := 1) R7.out).trans rfl
    have x2 := (row_cell (j := 2) R7.out).trans rfl
    have x3 := (row_cell (j := 3) R7.out).trans rfl
    have v0 := row_frz R7.out 0
    have v1 := row_frz R7.out 1
    have v2 := row_frz R7.out 2
    have v3 := row_frz R7.out 3
    repeat (first | go_skip | go_guarded | go_step | go_upon)
    have RR15 : ((((w7.setCell ⟨R, 0, none⟩ (.int .i64 (a.1 : Nat))).setCell ⟨R, 1, none⟩ (.int .i64 (b.1 : Nat))).setCell ⟨R, 2, none⟩ (.string X)).setCell ⟨R, 3, none⟩ (.bool d.1)).heap[R]? = some (.cells #[.int .i64 (a.1 : Nat), .int .i64 (b.1 : Nat), .string X, .bool d.1] 29 (0, 0)) := row_set (j := 3) (row_set (j := 2) (row_set (j := 1) (row_set (j := 0) R7.out (.int .i64 (a.1 : Nat))) (.int .i64 (b.1 : Nat))) (.string X)) (.bool d.1)
    refine bodyPost_ret (v := .tuple #[.agg #[.int .i64 (a.1 : Nat), .int .i64 (b.1 : Nat), .string X, .bool d.1], .int .i64 0]) (results_cell_row2 rfl _ _ R 29 _ (0, 0) _ rfl rfl RR15 Try.underlying29 rfl (by kernel_rfl)) rfl ⟨rfl, ?_⟩
    have hRw2 : w.heap.size ≤ R := Nat.le_of_eq HR.out
    exact (((B7.out.setCell (p := ⟨R, 0, none⟩) hRw2 _).setCell (p := ⟨R, 1, none⟩) hRw2 _).setCell (p := ⟨R, 2, none⟩) hRw2 _).setCell (p := ⟨R, 3, none⟩) hRw2 _
  · have hez : ((e : Int) != 0) = true := by simpa using hee
    have hFV := HFV.out
    have hEE := HEE.out
    rw [if_neg hee] at hFV hEE
    simp only [Option.getD_none, Option.isSome_none, Bool.false_eq_true, if_false] at hFV hEE
    have ez : frV zeroF = .agg #[.int .i64 0, .int .i64 0, .string ⟨#[]⟩, .bool false] := rfl
    rw [ez] at hFV
    subst hFV hEE
    have x0 := (row_cell (j := 0) R5.out).trans rfl
    have x1 := (row_cell (j := 1) R5.out).trans rfl
    have x2 := (row_cell (j := 2) R5.out).trans rfl
    have x3 := (row_cell (j := 3) R5.out).trans rfl
    have v0 := row_frz R5.out 0
    have v1 := row_frz R5.out 1
    have v2 := row_frz R5.out 2
    have v3 := row_frz R5.out 3
    repeat (first | go_skip | go_guarded | go_step | go_upon)
    have RR15 : ((((w5.setCell ⟨R, 0, none⟩ (.int .i64 0)).setCell ⟨R, 1, none⟩ (.int .i64 0)).setCell ⟨R, 2, none⟩ (.string ⟨#[]⟩)).setCell ⟨R, 3, none⟩ (.bool false)).heap[R]? = some (.cells #[.int .i64 0, .int .i64 0, .string ⟨#[]⟩, .bool false] 29 (0, 0)) := row_set (j := 3) (row_set (j := 2) (row_set (j := 1) (row_set (j := 0) R5.out (.int .i64 0)) (.int .i64 0)) (.string ⟨#[]⟩)) (.bool false)
    refine bodyPost_ret (v := .tuple #[.agg #[.int .i64 0, .int .i64 0, .string ⟨#[]⟩, .bool false], .int .i64 160]) (results_cell_row2 rfl _ _ R 29 _ (0, 0) _ rfl rfl RR15 Try.underlying29 rfl (by kernel_rfl)) rfl ⟨rfl, ?_⟩
    have hRw2 : w.heap.size ≤ R := Nat.le_of_eq HR.out
    exact (((B5.out.setCell (p := ⟨R, 0, none⟩) hRw2 _).setCell (p := ⟨R, 1, none⟩) hRw2 _).setCell (p := ⟨R, 2, none⟩) hRw2 _).setCell (p := ⟨R, 3, none⟩) hRw2 _
end MX
end Go.Proofs.Ytdkfoakmjeealaa
