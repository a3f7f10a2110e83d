/- Layer 14: the document's Make. -/
import Derived.Test.YtmpmmebmhffaeaaDoorQDlRtell
set_option linter.all false
set_option maxRecDepth 100000
set_option maxHeartbeats 25600000
namespace Go.Proofs.YtmpmmebmhffaeaaDoor
open Go.RowKit Go.Lib Go.BigFrame Go.Maps
namespace DM
open OM DL HP HS

theorem opC_last2 (P : List Stp) (x : Stp) : (opC (P ++ [x]))[P.length * 3 + 2]? = some (.string ⟨x.2.2.toArray⟩) := (c3_at (p := oF) (q := oC) (r := oT) (P ++ [x]) P.length x (by simp)).2.2
theorem opC_turn2 (P : List Stp) (x : Stp) (t : List UInt8) : (opC (P ++ [x])).set (P.length * 3 + 2) (.string ⟨t.toArray⟩) = opC (P ++ [(x.1, x.2.1, t)]) := by
  have e := c3_len (p := oF) (q := oC) (r := oT) P
  show (c3 oF oC oT (P ++ [x])).set _ _ = c3 oF oC oT (P ++ [(x.1, x.2.1, t)])
  rw [c3_snoc, c3_snoc, List.set_append_right _ _ (by omega), e, Nat.add_sub_cancel_left]
  rfl
/-- All texts of the steps are of at most so many bytes. -/
def Short (n : Nat) (O : List Stp) : Prop := ∀ x ∈ O, x.2.2.length ≤ n
theorem short_addC {n : Nat} {O : List Stp} (h : Short n O) (i : Int) {m : Nat} (hm : n ≤ m) : Short m (addC O i) := fun x hx => by
  unfold addC at hx
  have key : ∀ y ∈ O ++ [(i, (1 : Int), ([] : List UInt8))], y.2.2.length ≤ m := fun y hy => by
    rcases List.mem_append.1 hy with hy | hy
    · exact Nat.le_trans (h y hy) hm
    · rw [List.mem_singleton] at hy
      subst hy
      exact Nat.zero_le _
  cases hl : O.getLast? with
  | none => rw [hl] at hx; exact key x hx
  | some y =>
    rw [hl] at hx
    simp only at hx
    split at hx
    · rcases List.mem_append.1 hx with hx | hx
      · exact Nat.le_trans (h x (List.dropLast_subset _ hx)) hm
      · rw [List.mem_singleton] at hx
        subst hx
        exact Nat.le_trans (h y (List.mem_of_getLast? hl)) hm
    · exact key x hx
theorem short_addT {n : Nat} {O : List Stp} (h : Short n O) (c : UInt8) : Short (n + 1) (addT O c) := fun x hx => by
  unfold addT at hx
  have key : ∀ y ∈ O ++ [((0 : Int), (0 : Int), [c])], y.2.2.length ≤ n + 1 := fun y hy => by
    rcases List.mem_append.1 hy with hy | hy
    · exact Nat.le_succ_of_le (h y hy)
    · rw [List.mem_singleton] at hy
      subst hy
      simp
  cases hl : O.getLast? with
  | none => rw [hl] at hx; exact key x hx
  | some y =>
    rw [hl] at hx
    simp only at hx
    split at hx
    · rcases List.mem_append.1 hx with hx | hx
      · exact Nat.le_succ_of_le (h x (List.dropLast_subset _ hx))
      · rw [List.mem_singleton] at hx
        subst hx
        simp only [List.length_append, List.length_singleton]
        exact Nat.succ_le_succ (h y (List.mem_of_getLast? hl))
    · exact key x hx
def RmInv (bs : List Bk) (s : ByteArray) (sz : Nat) (R : List Stp) (w : World) (s8 s9 : Value) (wr : World) : Prop :=
  ∃ (p : Nat) (O : List Stp) (a : Option Addr) (c : Nat), s9 = .int .i64 p ∧ s8 = .slice a O.length c ∧ p ≤ s.size ∧ wr.ownsRow w.heap.size 46 3 (.slice a O.length c) O.length (opC O) ∧ goF bs sz (s.data.toList.drop p) O = R ∧ Within bs.length O ∧ Short p O ∧ O.length ≤ p ∧ Below w.heap.size w wr
set_option maxRecDepth 100000 in
set_option maxHeartbeats 25600000 in
theorem rmake_any (s : ByteArray) (sz : Nat) (bs : List Bk) (ao : Option Addr) (c : Nat) (w : World) (hl : LayB w ao bs) (h1 : 1 ≤ sz) (h2 : sz ≤ 65536) (hs : s.size ≤ 300) (hn : bs.length ≤ 4194304) :
    Calls Tryd.prog 10 #[.string s, .slice ao bs.length c, .int .i64 sz] w fun r w' => ∃ v, r = .returned (.tuple #[v, .int .i64 0]) ∧ w'.ownsRow w.heap.size 46 3 v (makeL s.data.toList bs sz).length (opC (makeL s.data.toList bs sz)) ∧ Below w.heap.size w w' := by
  have CM : Hid (∀ W (x : ByteArray), Below w.heap.size w W → x.size ≤ 400 → Calls Tryd.prog 25 #[.slice ao bs.length c, .string x] W fun r w' => r = .returned (.int .i64 (numB (findB bs (tellB x.data.toList)))) ∧ Below W.heap.size W w') := Lib.hid (fun W x hW hx => rmatch_any bs ao c x W (hl.below hW) hn hx)
  obtain ⟨nb, hnb⟩ : ∃ nb, bs.length = nb := ⟨_, rfl⟩
  have HNB := Lib.hid hnb
  rw [hnb] at CM hn ⊢
  obtain ⟨R, hR⟩ : ∃ R, makeL s.data.toList bs sz = R := ⟨_, rfl⟩
  rw [hR]
  have HR : Hid (goF bs sz (s.data.toList.drop 0) [] = R) := Lib.hid (by rw [List.drop_zero]; exact hR)
  have hz1 : ¬ (sz : Int) < 1 := by omega
  have hz2 : ¬ (65536 : Int) < sz := by omega
  have HH1 := Lib.hid h1
  clear hl hR hnb
  go_enter Tryd.func10, Tryd.ntmps10
  repeat (first | go_skip | go_guarded | go_step | go_upon)
  go_loopw [8, 9] (fun s8 s9 wr => RmInv bs s sz R w s8 s9 wr) (fun _ s9 _ => s.size - (Go.RowKit.intOf s9).toNat)
  case atStart => exact ⟨0, [], none, 0, rfl, rfl, Nat.zero_le _, World.ownsRow_nil _ _ _ _, HR.out, (fun x hx => by cases hx), (fun x hx => by cases hx), Nat.zero_le _, Below.refl _ _⟩
  case round =>
    clear HR
    obtain ⟨p, O, a, co, rfl, rfl, hp, hown, hgo, hin, hsh, hol, hb⟩ := hrel
    have HO := Lib.hid hown
    have HG := Lib.hid hgo
    have HI := Lib.hid hin
    have HSh := Lib.hid hsh
    have HB := Lib.hid hb
    clear hown hgo hin hsh hb
    by_cases hlt : p < s.size
    · have hpz : (p : Int) < s.size := by omega
      obtain ⟨v, hv⟩ : ∃ v, min (p + sz) s.size = v := ⟨_, rfl⟩
      have hpv : p < v := by omega
      have hvs : v ≤ s.size := by omega
      obtain ⟨nn, hnn⟩ : ∃ nn, nn = v - p := ⟨_, rfl⟩
      have hmn : min (sz : Int) ((s.size : Int) - p) = (nn : Int) := by omega
      have hmi : (if (s.size : Int) - p < (sz : Int) then (s.size : Int) - p else (sz : Int)) = (nn : Int) := by split <;> omega
      have hpn : (p : Int) + nn = v := by omega
      have hnn1 : 1 ≤ nn := by omega
      have HDx : Hid ((s.extract p v).data.toList = (s.data.toList.drop p).take sz) := Lib.hid (by rw [← hv]; exact drop_ext)
      have HDm : Hid (s.data.toList.drop v = (s.data.toList.drop p).drop sz) := Lib.hid (by rw [← hv]; exact drop_min)
      have HDc := Lib.hid (drop_cons (s := s) hlt)
      have CMk := Lib.hid (CM.out wr (s.extract p v) HB.out (by rw [Lib.size_eq, ext_len hvs]; omega))
      obtain ⟨fb, hfb⟩ : ∃ fb, findB bs (tellB (s.extract p v).data.toList) = fb := ⟨_, rfl⟩
      rw [hfb] at CMk
      have HFB : Hid (findB bs (tellB ((s.data.toList.drop p).take sz)) = fb) := Lib.hid (by rw [← HDx.out]; exact hfb)
      obtain ⟨T, hT⟩ : ∃ T, s.extract p v = T := ⟨_, rfl⟩
      have hsl : ∀ W, (Instr.slice 9 (.string s) (some (.int .i64 (p : Int))) (some (.int .i64 (v : Int))) none).run Tryd.prog W = .ok (.string T) W := fun W => by
        rw [run_slice_string_if (w := W) 9 s .i64 .i64 (p : Int) (v : Int) Tryd.underlying9, if_pos (by omega), if_pos (by omega), ← hT]
        rfl
      obtain ⟨p1, hp1⟩ : ∃ p1, p1 = p + 1 := ⟨_, rfl⟩
      have hp1z : (p : Int) + 1 = p1 := by omega
      have hp1s : p1 ≤ s.size := by omega
      obtain ⟨X, hX⟩ : ∃ X, s.extract p p1 = X := ⟨_, rfl⟩
      have hsl1 : ∀ W, (Instr.slice 9 (.string s) (some (.int .i64 (p : Int))) (some (.int .i64 (p1 : Int))) none).run Tryd.prog W = .ok (.string X) W := fun W => by
        rw [run_slice_string_if (w := W) 9 s .i64 .i64 (p : Int) (p1 : Int) Tryd.underlying9, if_pos (by omega), if_pos (by omega), ← hX]
        rfl
      have HXd : Hid (X.data.toList = [s.data.toList.getD p 0]) := Lib.hid (by
        rw [← hX, hp1, ext_cons (by omega) (by omega), take_of3, Nat.sub_self]
        rfl)
      have HXs : X.size = 1 := by rw [Lib.size_eq, HXd.out]; rfl
      have HP1 := Lib.hid hp1
      rw [hT] at CMk
      have HO0 : O.length ≤ 300 := by omega
      clear hv hnn hfb hT hX hp1 hlt
      cases fb with
      | some i =>
        have hil : i < nb := by have := findB_lt HFB.out; rw [HNB.out] at this; exact this
        have HG2 : Hid (goF bs sz (s.data.toList.drop v) (addC O i) = R) := Lib.hid (by rw [HDm.out, ← goF_some HH1.out (by rw [HDc.out]; simp) HFB.out]; exact HG.out)
        have HW2 := Lib.hid (within_addC HI.out (by rw [HNB.out]; exact hil))
        have HS2 := Lib.hid (short_addC HSh.out (i : Int) (Nat.le_of_lt hpv))
        have HL2 := Lib.hid (addC_le O i)
        have CMk2 : Hid (Calls Tryd.prog 25 #[.slice ao nb c, .string T] wr fun r w' => r = .returned (.int .i64 (i : Nat)) ∧ Below wr.heap.size wr w') := CMk
        have hi0 : (0 : Int) ≤ i := by omega
        have hi1 : ¬ (i : Int) < 0 := by omega
        rcases List.eq_nil_or_concat O with rfl | ⟨P, x, rfl⟩
        · repeat (first | go_skip | go_guarded | go_step | go_upon)
          refine CMk2.out.mono ?_
          rintro r w2 ⟨rfl, hb2⟩
          simp only []
          have HB2 := Lib.hid (HB.out.trans (hb2.mono HB.out.size))
          have HO2 := Lib.hid (owns_below HO.out hb2)
          clear hb2 CMk2 CMk
          skip
          repeat (first | go_skip | go_guarded | go_step | go_upon)
          go_quiet (fail)
          rename_i nq
          have HB3 := Lib.hid (HB2.out.trans ((drew_out w2 nq).mono HB2.out.size))
          have HO3 := Lib.hid (owns_below HO2.out (drew_out w2 nq))
          skip
          generalize w2.drewN nq = w3 at HB3 HO3 ⊢
          obtain ⟨a3, c3', w4, hrun, hown, hout⟩ := op_step (x := .int .i64 i) (y := .int .i64 1) (z := .string ⟨#[]⟩) HO3.out (by omega) HB3.out.size (fun v hv => by simp at hv; rcases hv with rfl | rfl | rfl <;> rfl)
          have HO4 := Lib.hid hown
          have HB4 := Lib.hid (own_out HO3.out HB3.out (Nat.le_refl _) (Nat.le_refl _) hout)
          clear hown hout
          repeat (first | (at_builtin; refine wpList_append_run _ rfl _ _ _ _ rfl _ _ rfl rfl _ _ hrun ?_) | go_skip | go_guarded | go_step | go_upon)
          exact ⟨⟨v, [((i : Int), 1, [])], a3, c3', rfl, rfl, hvs, HO4.out, HG2.out, HW2.out, HS2.out, by simp only [List.length_singleton]; omega, HB4.out⟩, by simp [Go.RowKit.intOf]; omega⟩
        · rw [List.concat_eq_append] at *
          obtain ⟨F, C, Tx⟩ := x
          have HLn : Hid ((P ++ [(F, C, Tx)]).length = P.length + 1) := Lib.hid (by simp)
          have HPl : Hid ((opC (P ++ [(F, C, Tx)]))[P.length * 3]? = some (.int .i64 F) ∧ (opC (P ++ [(F, C, Tx)]))[P.length * 3 + 1]? = some (.int .i64 C) ∧ (opC (P ++ [(F, C, Tx)]))[P.length * 3 + 2]? = some (.string ⟨Tx.toArray⟩)) := Lib.hid ⟨(opC_last P (F, C, Tx)).1, (opC_last P (F, C, Tx)).2, opC_last2 P (F, C, Tx)⟩
          obtain ⟨ao2, cq, hv2, hx2⟩ := owns_view HO.out
          injection hv2 with e1 _ e2
          subst e1 e2
          obtain ⟨g, rfl, hg, hgb, -⟩ := hx2 (by simp)
          obtain ⟨q, hq⟩ : ∃ q, P.length = q := ⟨_, rfl⟩
          rw [HLn.out, hq] at HO HO0 hol
          rw [hq] at HPl HLn
          rw [HLn.out]
          have hqz : ((q + 1 : Nat) : Int) - 1 = q := by omega
          have hqz2 : (q : Int) + 1 - 1 = q := by omega
          have hq0 : (0 : Int) ≤ q := by omega
          have hq1 : (q : Int) < (q : Int) + 1 := by omega
          clear hx2
          have hxb := HI.out (F, C, Tx) (by simp)
          rw [HNB.out] at hxb
          simp only at hxb
          by_cases hj : 0 < C ∧ F + C = (i : Int)
          · have hadd : addC (P ++ [(F, C, Tx)]) i = P ++ [(F, C + 1, Tx)] := by
              unfold addC
              rw [List.getLast?_concat]
              simp only
              rw [if_pos hj, List.dropLast_concat]
            rw [hadd] at HG2 HW2 HS2 HL2
            have HL3 : Hid ((P ++ [(F, C + 1, Tx)]).length = q + 1) := Lib.hid (by rw [List.length_append, hq]; rfl)
            have HSn : Hid ((opC (P ++ [(F, C, Tx)])).set (q * 3 + 1) (.int .i64 (C + 1)) = opC (P ++ [(F, C + 1, Tx)])) := Lib.hid (by rw [← hq]; exact opC_turn P (F, C, Tx) (C + 1))
            have hC : 0 < C := hj.1
            have hq2 : (F + C == (i : Int)) = true := by simp; exact hj.2
            have hCb : C + 1 ≤ 4194305 := by omega
            clear hj hq hadd
            repeat (first | go_skip | go_guarded | go_step | go_upon)
            refine CMk2.out.mono ?_
            rintro r w2 ⟨rfl, hb2⟩
            simp only []
            have HB2 := Lib.hid (HB.out.trans (hb2.mono HB.out.size))
            have HO2 := Lib.hid (owns_below HO.out hb2)
            clear hb2 CMk2 CMk
            obtain ⟨r0, -⟩ := own_cell HO2.out HPl.out.1
            obtain ⟨r1, -⟩ := own_cell HO2.out HPl.out.2.1
            repeat (first | go_skip | go_guarded | go_step | go_upon)
            go_quiet (fail)
            rename_i nq
            have HB3 := Lib.hid (HB2.out.trans ((drew_out w2 nq).mono HB2.out.size))
            have HO3 := Lib.hid (owns_below HO2.out (drew_out w2 nq))
            clear r0 r1
            generalize w2.drewN nq = w3 at HB3 HO3 ⊢
            obtain ⟨r1, f1⟩ := own_cell HO3.out HPl.out.2.1
            repeat (first | go_skip | go_guarded | go_step | go_upon)
            have hO4 := own_turn HO3.out (by omega) (q * 3 + 1) (.int .i64 (C + 1))
            rw [HSn.out] at hO4
            exact ⟨⟨v, P ++ [(F, C + 1, Tx)], some ⟨g, 0, none⟩, co, rfl, by rw [HL3.out], hvs, by rw [HL3.out]; exact hO4, HG2.out, HW2.out, HS2.out, by rw [HL3.out]; omega, HB3.out.setCell (p := ⟨g, q * 3 + 1, none⟩) hgb _⟩, by simp [Go.RowKit.intOf]; omega⟩
          · have hadd : addC (P ++ [(F, C, Tx)]) i = P ++ [(F, C, Tx)] ++ [((i : Int), 1, [])] := by
              unfold addC
              rw [List.getLast?_concat]
              simp only
              rw [if_neg hj]
            rw [hadd] at HG2 HW2 HS2 HL2
            have HL3 : Hid ((P ++ [(F, C, Tx)] ++ [((i : Int), (1 : Int), ([] : List UInt8))]).length = q + 1 + 1) := Lib.hid (by rw [List.length_append, HLn.out]; rfl)
            have HSn : Hid (opC (P ++ [(F, C, Tx)] ++ [((i : Int), 1, [])]) = opC (P ++ [(F, C, Tx)]) ++ [.int .i64 i, .int .i64 1, .string ⟨#[]⟩]) := Lib.hid (op_snoc _ _ _ _ rfl)
            clear hadd
            by_cases hC : 0 < C
            · have hq2 : (F + C == (i : Int)) = false := by simp; exact fun e => hj ⟨hC, e⟩
              clear hj hq
              repeat (first | go_skip | go_guarded | go_step | go_upon)
              refine CMk2.out.mono ?_
              rintro r w2 ⟨rfl, hb2⟩
              simp only []
              have HB2 := Lib.hid (HB.out.trans (hb2.mono HB.out.size))
              have HO2 := Lib.hid (owns_below HO.out hb2)
              clear hb2 CMk2 CMk
              obtain ⟨r0, -⟩ := own_cell HO2.out HPl.out.1
              obtain ⟨r1, -⟩ := own_cell HO2.out HPl.out.2.1
              repeat (first | go_skip | go_guarded | go_step | go_upon)
              go_quiet (fail)
              rename_i nq
              have HB3 := Lib.hid (HB2.out.trans ((drew_out w2 nq).mono HB2.out.size))
              have HO3 := Lib.hid (owns_below HO2.out (drew_out w2 nq))
              clear r0 r1
              generalize w2.drewN nq = w3 at HB3 HO3 ⊢
              obtain ⟨a3, c3', w4, hrun, hown, hout⟩ := op_step (x := .int .i64 i) (y := .int .i64 1) (z := .string ⟨#[]⟩) HO3.out (by omega) HB3.out.size (fun v hv => by simp at hv; rcases hv with rfl | rfl | rfl <;> rfl)
              have HO4 := Lib.hid hown
              have HB4 := Lib.hid (own_out HO3.out HB3.out (Nat.le_refl _) (Nat.le_refl _) hout)
              clear hown hout
              repeat (first | (at_builtin; refine wpList_append_run _ rfl _ _ _ _ rfl _ _ rfl rfl _ _ hrun ?_) | go_skip | go_guarded | go_step | go_upon)
              exact ⟨⟨v, P ++ [(F, C, Tx)] ++ [((i : Int), 1, [])], a3, c3', rfl, by rw [HL3.out], hvs, by rw [HL3.out, HSn.out]; exact HO4.out, HG2.out, HW2.out, HS2.out, by rw [HL3.out]; omega, HB4.out⟩, by simp [Go.RowKit.intOf]; omega⟩
            · clear hj hq
              repeat (first | go_skip | go_guarded | go_step | go_upon)
              refine CMk2.out.mono ?_
              rintro r w2 ⟨rfl, hb2⟩
              simp only []
              have HB2 := Lib.hid (HB.out.trans (hb2.mono HB.out.size))
              have HO2 := Lib.hid (owns_below HO.out hb2)
              clear hb2 CMk2 CMk
              obtain ⟨r0, -⟩ := own_cell HO2.out HPl.out.1
              obtain ⟨r1, -⟩ := own_cell HO2.out HPl.out.2.1
              repeat (first | go_skip | go_guarded | go_step | go_upon)
              go_quiet (fail)
              rename_i nq
              have HB3 := Lib.hid (HB2.out.trans ((drew_out w2 nq).mono HB2.out.size))
              have HO3 := Lib.hid (owns_below HO2.out (drew_out w2 nq))
              clear r0 r1
              generalize w2.drewN nq = w3 at HB3 HO3 ⊢
              obtain ⟨a3, c3', w4, hrun, hown, hout⟩ := op_step (x := .int .i64 i) (y := .int .i64 1) (z := .string ⟨#[]⟩) HO3.out (by omega) HB3.out.size (fun v hv => by simp at hv; rcases hv with rfl | rfl | rfl <;> rfl)
              have HO4 := Lib.hid hown
              have HB4 := Lib.hid (own_out HO3.out HB3.out (Nat.le_refl _) (Nat.le_refl _) hout)
              clear hown hout
              repeat (first | (at_builtin; refine wpList_append_run _ rfl _ _ _ _ rfl _ _ rfl rfl _ _ hrun ?_) | go_skip | go_guarded | go_step | go_upon)
              exact ⟨⟨v, P ++ [(F, C, Tx)] ++ [((i : Int), 1, [])], a3, c3', rfl, by rw [HL3.out], hvs, by rw [HL3.out, HSn.out]; exact HO4.out, HG2.out, HW2.out, HS2.out, by rw [HL3.out]; omega, HB4.out⟩, by simp [Go.RowKit.intOf]; omega⟩
      | none =>
        have HG2 : Hid (goF bs sz (s.data.toList.drop p1) (addT O (s.data.toList.getD p 0)) = R) := Lib.hid (by
          have hf := HFB.out
          have hg := HG.out
          rw [HDc.out] at hf hg
          rw [HP1.out, ← goF_none hf]
          exact hg)
        have HW2 := Lib.hid (within_addT HI.out (s.data.toList.getD p 0))
        have HS2 : Hid (Short p1 (addT O (s.data.toList.getD p 0))) := Lib.hid (by rw [HP1.out]; exact short_addT HSh.out _)
        have HL2 := Lib.hid (addT_le O (s.data.toList.getD p 0))
        have CMk2 : Hid (Calls Tryd.prog 25 #[.slice ao nb c, .string T] wr fun r w' => r = .returned (.int .i64 (-1)) ∧ Below wr.heap.size wr w') := CMk
        rcases List.eq_nil_or_concat O with rfl | ⟨P, x, rfl⟩
        · repeat (first | go_skip | go_guarded | go_step | go_upon)
          refine CMk2.out.mono ?_
          rintro r w2 ⟨rfl, hb2⟩
          simp only []
          have HB2 := Lib.hid (HB.out.trans (hb2.mono HB.out.size))
          have HO2 := Lib.hid (owns_below HO.out hb2)
          clear hb2 CMk2 CMk
          skip
          repeat (first | go_skip | go_guarded | go_step | go_upon)
          go_quiet (fail)
          rename_i nq
          have HB3 := Lib.hid (HB2.out.trans ((drew_out w2 nq).mono HB2.out.size))
          have HO3 := Lib.hid (owns_below HO2.out (drew_out w2 nq))
          skip
          generalize w2.drewN nq = w3 at HB3 HO3 ⊢
          obtain ⟨a3, c3', w4, hrun, hown, hout⟩ := op_step (x := .int .i64 0) (y := .int .i64 0) (z := .string X) HO3.out (by omega) HB3.out.size (fun v hv => by simp at hv; rcases hv with rfl | rfl | rfl <;> rfl)
          have HO4 := Lib.hid hown
          have HB4 := Lib.hid (own_out HO3.out HB3.out (Nat.le_refl _) (Nat.le_refl _) hout)
          clear hown hout
          repeat (first | (at_builtin; refine wpList_append_run _ rfl _ _ _ _ rfl _ _ rfl rfl _ _ hrun ?_) | go_skip | go_guarded | go_step | go_upon)
          exact ⟨⟨p1, [(0, 0, [s.data.toList.getD p 0])], a3, c3', rfl, rfl, hp1s, by
            have := HO4.out
            rw [show ([] : List Stp) = [] from rfl] at this
            have e := op_snoc [] 0 0 [s.data.toList.getD p 0] (Z := X) (by rw [← HXd.out])
            rw [List.nil_append] at e
            rw [e]
            exact this, HG2.out, HW2.out, HS2.out, by simp only [List.length_singleton]; have := HP1.out; omega, HB4.out⟩, by simp [Go.RowKit.intOf]; omega⟩
        · rw [List.concat_eq_append] at *
          obtain ⟨F, C, Tx⟩ := x
          have HLn : Hid ((P ++ [(F, C, Tx)]).length = P.length + 1) := Lib.hid (by simp)
          have HPl : Hid ((opC (P ++ [(F, C, Tx)]))[P.length * 3]? = some (.int .i64 F) ∧ (opC (P ++ [(F, C, Tx)]))[P.length * 3 + 1]? = some (.int .i64 C) ∧ (opC (P ++ [(F, C, Tx)]))[P.length * 3 + 2]? = some (.string ⟨Tx.toArray⟩)) := Lib.hid ⟨(opC_last P (F, C, Tx)).1, (opC_last P (F, C, Tx)).2, opC_last2 P (F, C, Tx)⟩
          obtain ⟨ao2, cq, hv2, hx2⟩ := owns_view HO.out
          injection hv2 with e1 _ e2
          subst e1 e2
          obtain ⟨g, rfl, hg, hgb, -⟩ := hx2 (by simp)
          obtain ⟨q, hq⟩ : ∃ q, P.length = q := ⟨_, rfl⟩
          rw [HLn.out, hq] at HO HO0 hol
          rw [hq] at HPl HLn
          rw [HLn.out]
          have hqz : ((q + 1 : Nat) : Int) - 1 = q := by omega
          have hqz2 : (q : Int) + 1 - 1 = q := by omega
          have hq0 : (0 : Int) ≤ q := by omega
          have hq1 : (q : Int) < (q : Int) + 1 := by omega
          clear hx2
          by_cases hj : C = 0
          · subst hj
            have hadd : addT (P ++ [(F, (0 : Int), Tx)]) (s.data.toList.getD p 0) = P ++ [(F, 0, Tx ++ [s.data.toList.getD p 0])] := by
              unfold addT
              rw [List.getLast?_concat]
              simp only
              rw [if_pos trivial, List.dropLast_concat]
            rw [hadd] at HG2 HW2 HS2 HL2
            have HL3 : Hid ((P ++ [(F, (0 : Int), Tx ++ [s.data.toList.getD p 0])]).length = q + 1) := Lib.hid (by rw [List.length_append, hq]; rfl)
            obtain ⟨Y, hY⟩ : ∃ Y : ByteArray, ⟨Tx.toArray⟩ = Y := ⟨_, rfl⟩
            have hYd : Y.data.toList = Tx := by rw [← hY]
            have hYl : Y.size ≤ 300 := by
              have := HSh.out (F, 0, Tx) (by simp)
              simp only at this
              rw [Lib.size_eq, hYd]
              omega
            rw [hY] at HPl
            have hYX : (Y ++ X).data.toList = Tx ++ [s.data.toList.getD p 0] := by rw [cat_data2, hYd, HXd.out]
            have HSn : Hid ((opC (P ++ [(F, (0 : Int), Tx)])).set (q * 3 + 2) (.string (Y ++ X)) = opC (P ++ [(F, 0, Tx ++ [s.data.toList.getD p 0])])) := Lib.hid (by
              have e := opC_turn2 P (F, 0, Tx) (Tx ++ [s.data.toList.getD p 0])
              rw [← hYX, Lib.mk_data, hq, hYX] at e
              exact e)
            have hsum : (Y.size : Int) + X.size ≤ 9223372036854775807 := by omega
            clear hadd hq hY hYd hYX
            repeat (first | go_skip | go_guarded | go_step | go_upon)
            refine CMk2.out.mono ?_
            rintro r w2 ⟨rfl, hb2⟩
            simp only []
            have HB2 := Lib.hid (HB.out.trans (hb2.mono HB.out.size))
            have HO2 := Lib.hid (owns_below HO.out hb2)
            clear hb2 CMk2 CMk
            obtain ⟨r0, -⟩ := own_cell HO2.out HPl.out.1
            obtain ⟨r1, -⟩ := own_cell HO2.out HPl.out.2.1
            repeat (first | go_skip | go_guarded | go_step | go_upon)
            go_quiet (fail)
            rename_i nq
            have HB3 := Lib.hid (HB2.out.trans ((drew_out w2 nq).mono HB2.out.size))
            have HO3 := Lib.hid (owns_below HO2.out (drew_out w2 nq))
            clear r0 r1
            generalize w2.drewN nq = w3 at HB3 HO3 ⊢
            obtain ⟨r1, f1⟩ := own_cell HO3.out HPl.out.2.1
            obtain ⟨r2, f2⟩ := own_cell HO3.out HPl.out.2.2
            have hg3 : g < w3.heap.size := World.block_lt_of_cell? _ _ r2
            repeat (first | go_skip | go_guarded | go_step | go_upon)
            go_region
            have hO4 := own_turn HO3.out (by omega) (q * 3 + 2) (.string (Y ++ X))
            rw [HSn.out] at hO4
            have HO4 := Lib.hid (owns_below hO4 (Below.refl _ _).drew)
            have HB4 := Lib.hid (HB3.out.setCell (p := ⟨g, q * 3 + 2, none⟩) hgb (.string (Y ++ X))).drew
            clear hO4 r1 f1 r2 f2 hg3
            generalize (w3.setCell ⟨g, q * 3 + 2, none⟩ (.string (Y ++ X))).drew = w4 at HO4 HB4 ⊢
            repeat (first | go_skip | go_guarded | go_step | go_upon)
            exact ⟨⟨p1, P ++ [(F, 0, Tx ++ [s.data.toList.getD p 0])], some ⟨g, 0, none⟩, co, rfl, by rw [HL3.out], hp1s, by rw [HL3.out]; exact HO4.out, HG2.out, HW2.out, HS2.out, by rw [HL3.out]; have := HP1.out; omega, HB4.out⟩, by simp [Go.RowKit.intOf]; omega⟩
          · have hadd : addT (P ++ [(F, C, Tx)]) (s.data.toList.getD p 0) = P ++ [(F, C, Tx)] ++ [((0 : Int), 0, [s.data.toList.getD p 0])] := by
              unfold addT
              rw [List.getLast?_concat]
              simp only
              rw [if_neg hj]
            rw [hadd] at HG2 HW2 HS2 HL2
            have HL3 : Hid ((P ++ [(F, C, Tx)] ++ [((0 : Int), (0 : Int), [s.data.toList.getD p 0])]).length = q + 1 + 1) := Lib.hid (by rw [List.length_append, HLn.out]; rfl)
            have HSn : Hid (opC (P ++ [(F, C, Tx)] ++ [((0 : Int), 0, [s.data.toList.getD p 0])]) = opC (P ++ [(F, C, Tx)]) ++ [.int .i64 0, .int .i64 0, .string X]) := Lib.hid (op_snoc _ _ _ _ (by rw [← HXd.out]))
            have hq2 : (C == 0) = false := by simp [hj]
            clear hadd hj hq
            repeat (first | go_skip | go_guarded | go_step | go_upon)
            refine CMk2.out.mono ?_
            rintro r w2 ⟨rfl, hb2⟩
            simp only []
            have HB2 := Lib.hid (HB.out.trans (hb2.mono HB.out.size))
            have HO2 := Lib.hid (owns_below HO.out hb2)
            clear hb2 CMk2 CMk
            obtain ⟨r0, -⟩ := own_cell HO2.out HPl.out.1
            obtain ⟨r1, -⟩ := own_cell HO2.out HPl.out.2.1
            repeat (first | go_skip | go_guarded | go_step | go_upon)
            go_quiet (fail)
            rename_i nq
            have HB3 := Lib.hid (HB2.out.trans ((drew_out w2 nq).mono HB2.out.size))
            have HO3 := Lib.hid (owns_below HO2.out (drew_out w2 nq))
            clear r0 r1
            generalize w2.drewN nq = w3 at HB3 HO3 ⊢
            obtain ⟨r1, -⟩ := own_cell HO3.out HPl.out.2.1
            obtain ⟨a3, c3', w4, hrun, hown, hout⟩ := op_step (x := .int .i64 0) (y := .int .i64 0) (z := .string X) HO3.out (by omega) HB3.out.size (fun v hv => by simp at hv; rcases hv with rfl | rfl | rfl <;> rfl)
            have HO4 := Lib.hid hown
            have HB4 := Lib.hid (own_out HO3.out HB3.out (Nat.le_refl _) (Nat.le_refl _) hout)
            clear hown hout
            repeat (first | (at_builtin; refine wpList_append_run _ rfl _ _ _ _ rfl _ _ rfl rfl _ _ hrun ?_) | go_skip | go_guarded | go_step | go_upon)
            exact ⟨⟨p1, P ++ [(F, C, Tx)] ++ [((0 : Int), 0, [s.data.toList.getD p 0])], a3, c3', rfl, by rw [HL3.out], hp1s, by rw [HL3.out, HSn.out]; exact HO4.out, HG2.out, HW2.out, HS2.out, by rw [HL3.out]; have := HP1.out; omega, HB4.out⟩, by simp [Go.RowKit.intOf]; omega⟩
    · have hpz : ¬ (p : Int) < s.size := by omega
      have HF : Hid (O = R) := Lib.hid (by
        have := HG.out
        rw [List.drop_eq_nil_of_le (by have := size_data s; omega), goF_nil] at this
        exact this)
      clear hlt
      repeat (first | go_skip | go_guarded | go_step | go_upon)
      go_ret2
      refine ⟨_, rfl, ?_, HB.out⟩
      have := HO.out
      rw [HF.out] at this
      rw [HF.out]
      exact this
end DM
end Go.Proofs.YtmpmmebmhffaeaaDoor
