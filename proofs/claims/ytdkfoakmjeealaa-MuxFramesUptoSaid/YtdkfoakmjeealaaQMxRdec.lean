/- Layer 16: the contract of the document's Decode. -/
import Derived.Test.YtdkfoakmjeealaaQMxDec
set_option linter.all false
set_option maxRecDepth 100000
set_option maxHeartbeats 25600000
namespace Go.Proofs.Ytdkfoakmjeealaa
open Go.RowKit Go.Lib Go.BigFrame
namespace MX
open CP AP OM FP

set_option maxRecDepth 100000 in
set_option maxHeartbeats 6400000 in
theorem rdec_any (s : ByteArray) (w : World) (hs : s.size ≤ 4294967296) :
    Calls Try.prog 27 #[.string s] w fun r w' => r = .returned (.tuple #[frV (decV s.data.toList), .int .i64 (decE s.data.toList : Nat)]) ∧ Below w.heap.size w w' := by
  have hsl : s.data.toList.length ≤ 4294967296 := by rw [← Lib.size_eq]; exact hs
  unfold decV decE
  rw [dec_is]
  obtain ⟨a, ha⟩ : ∃ a, rNum (s.data.toList, 0) = a := ⟨_, rfl⟩
  obtain ⟨b, hb⟩ : ∃ b, rNum a.2 = b := ⟨_, rfl⟩
  obtain ⟨c, hc⟩ : ∃ c, rTxt 65536 b.2 = c := ⟨_, rfl⟩
  obtain ⟨d, hd⟩ : ∃ d, rFlag c.2 = d := ⟨_, rfl⟩
  obtain ⟨e, he⟩ : ∃ e, CR.endR d.2 = e := ⟨_, rfl⟩
  rw [ha, hb, hc, hd, he]
  have la : a.2.1.length ≤ 4294967296 := by rw [← ha]; exact Nat.le_trans rd_left hsl
  have lb : b.2.1.length ≤ 4294967296 := by rw [← hb]; exact Nat.le_trans rd_left la
  have lc : c.2.1.length ≤ 4294967296 := by rw [← hc]; exact Nat.le_trans tx_left lb
  have ld : d.2.1.length ≤ 4294967296 := by rw [← hd]; exact Nat.le_trans fl_left lc
  have lt : c.1.length ≤ 4294967296 := by rw [← hc]; exact Nat.le_trans (tx_le _) lb
  have cA := fun bk W (h : RR.At bk (s.data.toList, 0) W) => RR.rnum_all bk (s.data.toList, 0) W h
  have cB := fun bk W (h : RR.At bk a.2 W) => RR.rnum_all bk a.2 W h
  have cC := fun bk W (h : RR.At bk b.2 W) => RR.rtext_all bk 65536 b.2 W h
  have cD := fun bk W (h : RR.At bk c.2 W) => RR.rflag_all bk c.2 W h
  have cE := fun bk W (h : RR.At bk d.2 W) => RR.rend_all bk d.2 W h
  rw [ha] at cA
  rw [hb] at cB
  have e6 : ((65536 : Nat) : Int) = 65536 := rfl
  rw [e6] at cC
  rw [hc] at cC
  rw [hd] at cD
  rw [he] at cE
  unfold RR.NPost at cA cB
  unfold RR.TPost at cC
  unfold RR.FPost at cD
  obtain ⟨X, hX⟩ : ∃ X : ByteArray, ⟨c.1.toArray⟩ = X := ⟨_, rfl⟩
  have hXz : X.size ≤ 4294967296 := by rw [← hX, Lib.size_eq]; exact lt
  rw [hX] at cC
  have CA := Lib.hid cA
  have CB := Lib.hid cB
  have CC := Lib.hid cC
  have CD := Lib.hid cD
  have CE := Lib.hid cE
  obtain ⟨w0, hw0⟩ : ∃ w0, w.alloc (.cells #[.int .i64 0, .int .i64 0, .string ⟨#[]⟩, .bool false] 29) = w0 := ⟨_, rfl⟩
  have hb0 : Below w.heap.size w w0 := hw0 ▸ (Below.refl _ _).alloc (Nat.le_refl _) _
  have hr0 : w0.heap[w.heap.size]? = some (.cells #[.int .i64 0, .int .i64 0, .string ⟨#[]⟩, .bool false] 29 (0, 0)) := hw0 ▸ heap_alloc_new w _
  obtain ⟨R, hR⟩ : ∃ R, w.heap.size = R := ⟨_, rfl⟩
  rw [hR] at hr0
  have HR := Lib.hid hR
  have B0 := Lib.hid hb0
  have R0 := Lib.hid hr0
  obtain ⟨FV, hFV⟩ : ∃ FV, frV ((if e = 0 then some (Fr.mk (a.1 : Nat) (b.1 : Nat) c.1 d.1) else none).getD zeroF) = FV := ⟨_, rfl⟩
  obtain ⟨EE, hEE⟩ : ∃ EE : Nat, (if (if e = 0 then some (Fr.mk (a.1 : Nat) (b.1 : Nat) c.1 d.1) else none).isSome = true then 0 else 160) = EE := ⟨_, rfl⟩
  rw [hFV, hEE]
  have HFV := Lib.hid hFV
  have HEE := Lib.hid hEE
  have HFv : Hid (frV ⟨(a.1 : Nat), (b.1 : Nat), c.1, d.1⟩ = .agg #[.int .i64 (a.1 : Nat), .int .i64 (b.1 : Nat), .string X, .bool d.1]) := Lib.hid (by unfold frV txt; rw [hX])
  clear hFV hEE cA cB cC cD cE ha hb hc hd he hX hXz la lb lc ld lt hb0 hr0 hsl
  go_enter Try.func27, Try.ntmps27
  repeat (first | (go_at_call 48; fail) | go_skip | go_guarded | go_step | go_upon)
  obtain ⟨w1, hw1⟩ : ∃ w1, (w0.alloc (.cells #[.string s, .int .i64 0, .int .i64 0] 107)).alloc (.cells #[.int .i64 0, .int .i64 0, .string ⟨#[]⟩, .bool false] 29) = w1 := ⟨_, rfl⟩
  have hk1 : w1.heap[w0.heap.size]? = some (.cells #[.string s, .int .i64 0, .int .i64 0] 107 (0, 0)) := by
    rw [← hw1]
    have h1 := heap_alloc_new w0 (.cells #[.string s, .int .i64 0, .int .i64 0] 107)
    exact (((Below.refl _ _).alloc (Nat.le_refl _) _ : Below _ _ _).block _ (Array.getElem?_eq_some_iff.1 h1).1).trans h1
  have hf1 : w1.heap[w0.heap.size + 1]? = some (.cells #[.int .i64 0, .int .i64 0, .string ⟨#[]⟩, .bool false] 29 (0, 0)) := by
    rw [← hw1]
    have h1 := heap_alloc_new (w0.alloc (.cells #[.string s, .int .i64 0, .int .i64 0] 107)) (.cells #[.int .i64 0, .int .i64 0, .string ⟨#[]⟩, .bool false] 29)
    have e : (w0.alloc (.cells #[.string s, .int .i64 0, .int .i64 0] 107)).heap.size = w0.heap.size + 1 := by simp
    rw [e] at h1
    exact h1
  have hb1 : Below w0.heap.size w0 w1 := hw1 ▸ (((Below.refl _ _).alloc (Nat.le_refl _) _).alloc (by simp) _)
  rw [hw1]
  obtain ⟨F, hF⟩ : ∃ F, w0.heap.size + 1 = F := ⟨_, rfl⟩
  obtain ⟨bk, hbk⟩ : ∃ bk, w0.heap.size = bk := ⟨_, rfl⟩
  rw [hF] at hf1 ⊢
  rw [hbk] at hk1 ⊢
  have hRb : R < bk := by rw [← hbk]; exact (Array.getElem?_eq_some_iff.1 R0.out).1
  have hRw : w.heap.size ≤ bk := by have := HR.out; omega
  have hFw : w.heap.size ≤ F := by omega
  have hne : ¬ R = bk := by omega
  have hnF : ¬ R = F := by omega
  have hFb : ¬ F = bk := by omega
  have hbF : ¬ bk = F := by omega
  have R1 := Lib.hid ((hb1.block R (Array.getElem?_eq_some_iff.1 R0.out).1).trans R0.out)
  have F1 := Lib.hid hf1
  have B1 := Lib.hid (B0.out.trans (hb1.mono B0.out.size))
  have A1 : Hid (RR.At bk (s.data.toList, 0) w1) := Lib.hid ⟨s, 0, ⟨(row_cell (j := 0) hk1).trans rfl, (row_cell (j := 1) hk1).trans rfl, (row_cell (j := 2) hk1).trans rfl, row_frz hk1 1, row_frz hk1 2, (Array.getElem?_eq_some_iff.1 hk1).1⟩, rfl, Nat.zero_le _, by omega⟩
  clear hk1 hf1 hb1 hw1 hF hbk
  have low : ∀ (W W' : World) (k : Nat), w.heap.size ≤ k → w.heap.size ≤ W.heap.size → Out (· = k) W W' → Below w.heap.size W W' := fun W W' k hk hz h => h.below (fun j hj _ e => by omega) hz
  have LOW := Lib.hid low
  clear low
  refine (CA.out _ _ A1.out).mono ?_
  rintro r u1 ⟨rfl, h2, ho2⟩
  simp only []
  have RF := ho2.row F1.out hFb
  have RR' := ho2.row R1.out hne
  have BB := B1.out.trans (LOW.out _ _ _ hRw B1.out.size ho2)
  have x0 := (row_cell (j := 0) RF).trans rfl
  have v0 := row_frz RF 0
  have A0 := Lib.hid h2
  have RFh := Lib.hid RF
  have RRh := Lib.hid RR'
  have BBh := Lib.hid BB
  clear h2 ho2 RF RR' BB
  repeat (first | (go_at_call 48; fail) | go_skip | go_guarded | go_step | go_upon)
  have oF : Out (· = F) u1 (u1.setCell ⟨F, 0, none⟩ (.int .i64 (a.1 : Nat))) := (Out.refl (· = F) _).setCell (p := ⟨F, 0, none⟩) (fun _ => rfl) _
  have A2 := Lib.hid (A0.out.out oF hbF)
  have F2 := Lib.hid (row_set (j := 0) RFh.out (.int .i64 (a.1 : Nat)))
  have R2 := Lib.hid (oF.row RRh.out hnF)
  have B2 := Lib.hid (BBh.out.trans (LOW.out _ _ _ hFw BBh.out.size oF))
  clear oF x0 v0 A0 RFh RRh BBh
  generalize u1.setCell ⟨F, 0, none⟩ (.int .i64 (a.1 : Nat)) = w2 at A2 F2 R2 B2 ⊢
  refine (CB.out _ _ A2.out).mono ?_
  rintro r u2 ⟨rfl, h2, ho2⟩
  simp only []
  have RF := ho2.row F2.out hFb
  have RR' := ho2.row R2.out hne
  have BB := B2.out.trans (LOW.out _ _ _ hRw B2.out.size ho2)
  have x0 := (row_cell (j := 1) RF).trans rfl
  have v0 := row_frz RF 1
  have A0 := Lib.hid h2
  have RFh := Lib.hid RF
  have RRh := Lib.hid RR'
  have BBh := Lib.hid BB
  clear h2 ho2 RF RR' BB
  repeat (first | (go_at_call 49; fail) | go_skip | go_guarded | go_step | go_upon)
  have oF : Out (· = F) u2 (u2.setCell ⟨F, 1, none⟩ (.int .i64 (b.1 : Nat))) := (Out.refl (· = F) _).setCell (p := ⟨F, 1, none⟩) (fun _ => rfl) _
  have A3 := Lib.hid (A0.out.out oF hbF)
  have F3 := Lib.hid (row_set (j := 1) RFh.out (.int .i64 (b.1 : Nat)))
  have R3 := Lib.hid (oF.row RRh.out hnF)
  have B3 := Lib.hid (BBh.out.trans (LOW.out _ _ _ hFw BBh.out.size oF))
  clear oF x0 v0 A0 RFh RRh BBh
  generalize u2.setCell ⟨F, 1, none⟩ (.int .i64 (b.1 : Nat)) = w3 at A3 F3 R3 B3 ⊢
  refine (CC.out _ _ A3.out).mono ?_
  rintro r u3 ⟨rfl, h2, ho2⟩
  simp only []
  have RF := ho2.row F3.out hFb
  have RR' := ho2.row R3.out hne
  have BB := B3.out.trans (LOW.out _ _ _ hRw B3.out.size ho2)
  have x0 := (row_cell (j := 2) RF).trans rfl
  have v0 := row_frz RF 2
  have A0 := Lib.hid h2
  have RFh := Lib.hid RF
  have RRh := Lib.hid RR'
  have BBh := Lib.hid BB
  clear h2 ho2 RF RR' BB
  repeat (first | (go_at_call 50; fail) | go_skip | go_guarded | go_step | go_upon)
  have oF : Out (· = F) u3 (u3.setCell ⟨F, 2, none⟩ (.string X)) := (Out.refl (· = F) _).setCell (p := ⟨F, 2, none⟩) (fun _ => rfl) _
  have A4 := Lib.hid (A0.out.out oF hbF)
  have F4 := Lib.hid (row_set (j := 2) RFh.out (.string X))
  have R4 := Lib.hid (oF.row RRh.out hnF)
  have B4 := Lib.hid (BBh.out.trans (LOW.out _ _ _ hFw BBh.out.size oF))
  clear oF x0 v0 A0 RFh RRh BBh
  generalize u3.setCell ⟨F, 2, none⟩ (.string X) = w4 at A4 F4 R4 B4 ⊢
  refine (CD.out _ _ A4.out).mono ?_
  rintro r u4 ⟨rfl, h2, ho2⟩
  simp only []
  have RF := ho2.row F4.out hFb
  have RR' := ho2.row R4.out hne
  have BB := B4.out.trans (LOW.out _ _ _ hRw B4.out.size ho2)
  have x0 := (row_cell (j := 3) RF).trans rfl
  have v0 := row_frz RF 3
  have A0 := Lib.hid h2
  have RFh := Lib.hid RF
  have RRh := Lib.hid RR'
  have BBh := Lib.hid BB
  clear h2 ho2 RF RR' BB
  repeat (first | (go_at_call 51; fail) | go_skip | go_guarded | go_step | go_upon)
  have oF : Out (· = F) u4 (u4.setCell ⟨F, 3, none⟩ (.bool d.1)) := (Out.refl (· = F) _).setCell (p := ⟨F, 3, none⟩) (fun _ => rfl) _
  have A5 := Lib.hid (A0.out.out oF hbF)
  have F5 := Lib.hid (row_set (j := 3) RFh.out (.bool d.1))
  have R5 := Lib.hid (oF.row RRh.out hnF)
  have B5 := Lib.hid (BBh.out.trans (LOW.out _ _ _ hFw BBh.out.size oF))
  clear oF x0 v0 A0 RFh RRh BBh
  generalize u4.setCell ⟨F, 3, none⟩ (.bool d.1) = w5 at A5 F5 R5 B5 ⊢
  refine (CE.out _ _ A5.out).mono ?_
  rintro r w6 ⟨rfl, ho6, -⟩
  simp only []
  have F6 := Lib.hid (ho6.row F5.out (fun h => h))
  have R6 := Lib.hid (ho6.row R5.out (fun h => h))
  have B6 := Lib.hid (B5.out.trans (ho6.below (fun _ _ _ h => h) B5.out.size))
  clear ho6
  have x0 := (row_cell (j := 0) R6.out).trans rfl
  have x1 := (row_cell (j := 1) R6.out).trans rfl
  have x2 := (row_cell (j := 2) R6.out).trans rfl
  have x3 := (row_cell (j := 3) R6.out).trans rfl
  have v0 := row_frz R6.out 0
  have v1 := row_frz R6.out 1
  have v2 := row_frz R6.out 2
  have v3 := row_frz R6.out 3
  have y0 : w6.cell? ⟨F, 0, none⟩ = some (.int .i64 (a.1 : Nat)) := (row_cell (j := 0) F6.out).trans rfl
  have y1 : w6.cell? ⟨F, 1, none⟩ = some (.int .i64 (b.1 : Nat)) := (row_cell (j := 1) F6.out).trans rfl
  have y2 : w6.cell? ⟨F, 2, none⟩ = some (.string X) := (row_cell (j := 2) F6.out).trans rfl
  have y3 : w6.cell? ⟨F, 3, none⟩ = some (.bool d.1) := (row_cell (j := 3) F6.out).trans rfl
  have hRw2 : w.heap.size ≤ R := Nat.le_of_eq HR.out
  by_cases hee : e = 0
  · subst hee
    have hFV := HFV.out
    have hEE := HEE.out
    rw [if_pos rfl] at hFV hEE
    simp only [Option.getD_some, Option.isSome_some, if_true] at hFV hEE
    rw [HFv.out] at hFV
    subst hFV hEE
    repeat (first | go_skip | go_guarded | go_step | go_upon)
    have RR15 : ((((w6.setCell ⟨R, 0, none⟩ (.int .i64 (a.1 : Nat))).setCell ⟨R, 1, none⟩ (.int .i64 (b.1 : Nat))).setCell ⟨R, 2, none⟩ (.string X)).setCell ⟨R, 3, none⟩ (.bool d.1)).heap[R]? = some (.cells #[.int .i64 (a.1 : Nat), .int .i64 (b.1 : Nat), .string X, .bool d.1] 29 (0, 0)) := row_set (j := 3) (row_set (j := 2) (row_set (j := 1) (row_set (j := 0) R6.out (.int .i64 (a.1 : Nat))) (.int .i64 (b.1 : Nat))) (.string X)) (.bool d.1)
    refine bodyPost_ret (v := .tuple #[.agg #[.int .i64 (a.1 : Nat), .int .i64 (b.1 : Nat), .string X, .bool d.1], .int .i64 0]) (results_cell_row2 rfl _ _ R 29 _ (0, 0) _ rfl rfl RR15 Try.underlying29 rfl (by kernel_rfl)) rfl ⟨rfl, ?_⟩
    exact (((B6.out.setCell (p := ⟨R, 0, none⟩) hRw2 _).setCell (p := ⟨R, 1, none⟩) hRw2 _).setCell (p := ⟨R, 2, none⟩) hRw2 _).setCell (p := ⟨R, 3, none⟩) hRw2 _
  · have hez : ((e : Int) != 0) = true := by simpa using hee
    have hFV := HFV.out
    have hEE := HEE.out
    rw [if_neg hee] at hFV hEE
    simp only [Option.getD_none, Option.isSome_none, Bool.false_eq_true, if_false] at hFV hEE
    have ez : frV zeroF = .agg #[.int .i64 0, .int .i64 0, .string ⟨#[]⟩, .bool false] := rfl
    rw [ez] at hFV
    subst hFV hEE
    repeat (first | go_skip | go_guarded | go_step | go_upon)
    have RR15 : ((((w6.setCell ⟨R, 0, none⟩ (.int .i64 0)).setCell ⟨R, 1, none⟩ (.int .i64 0)).setCell ⟨R, 2, none⟩ (.string ⟨#[]⟩)).setCell ⟨R, 3, none⟩ (.bool false)).heap[R]? = some (.cells #[.int .i64 0, .int .i64 0, .string ⟨#[]⟩, .bool false] 29 (0, 0)) := row_set (j := 3) (row_set (j := 2) (row_set (j := 1) (row_set (j := 0) R6.out (.int .i64 0)) (.int .i64 0)) (.string ⟨#[]⟩)) (.bool false)
    refine bodyPost_ret (v := .tuple #[.agg #[.int .i64 0, .int .i64 0, .string ⟨#[]⟩, .bool false], .int .i64 160]) (results_cell_row2 rfl _ _ R 29 _ (0, 0) _ rfl rfl RR15 Try.underlying29 rfl (by kernel_rfl)) rfl ⟨rfl, ?_⟩
    exact (((B6.out.setCell (p := ⟨R, 0, none⟩) hRw2 _).setCell (p := ⟨R, 1, none⟩) hRw2 _).setCell (p := ⟨R, 2, none⟩) hRw2 _).setCell (p := ⟨R, 3, none⟩) hRw2 _
end MX
end Go.Proofs.Ytdkfoakmjeealaa
