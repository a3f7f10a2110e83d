/- Layer 10: the walk of StoreApart. -/
import Derived.Test.YtfbhbadcgecgmaaGreatDoorMg7
namespace Go.Proofs.YtfbhbadcgecgmaaGreatDoor
open Go.RowKit Go.Lib Go.BigFrame
namespace DG
open OM TP TM DP DM TG TR FP
open _root_.Go.Proofs.YtfbhbadcgecgmaaGreatDoor.ST (besideL saveD clearD loadD pA pB apD1)

set_option maxRecDepth 100000 in
set_option maxHeartbeats 12800000 in
theorem stApart_any (O V : ByteArray) (fa fw fk ft : Int) (w : World) (he : NF.Env w) :
    Calls Tryz.prog 7 #[.string O, .string V, .agg #[.int .i64 fa, .int .i64 fw, .int .i64 fk, .int .i64 ft]] w fun r w' => r = .returned (.bool true) ∧ Below w.heap.size w w' := by
  have HE := Lib.hid he
  have b0 : Below w.heap.size w (w.alloc (.cells #[.int .i64 fa, .int .i64 fw, .int .i64 fk, .int .i64 ft] 78)) := (Below.refl _ _).alloc (Nat.le_refl _) _
  have hr0 := heap_alloc_new w (.cells #[.int .i64 fa, .int .i64 fw, .int .i64 fk, .int .i64 ft] 78)
  obtain ⟨w0, hw0⟩ : ∃ W, w.alloc (.cells #[.int .i64 fa, .int .i64 fw, .int .i64 fk, .int .i64 ft] 78) = W := ⟨_, rfl⟩
  rw [hw0] at b0 hr0
  have CA := Lib.hid (awakeS_any w0 (he.below b0))
  have B0 := Lib.hid b0
  have HR0 := Lib.hid hr0
  have HZ0 : Hid (w.heap.size < w0.heap.size) := Lib.hid (Array.getElem?_eq_some_iff.1 hr0).1
  clear he b0 hr0
  go_enter Tryz.func7, Tryz.ntmps7
  repeat (first | (go_at_call 25; fail) | go_skip | go_guarded | go_step | go_upon)
  try rw [hw0]
  clear hw0
  refine CA.out.mono ?_
  rintro r w1 ⟨rfl, hb1⟩
  simp only []
  have B1 : Hid (Below w.heap.size w w1) := Lib.hid (Below.trans B0.out (hb1.mono B0.out.size))
  have HR1 : Hid (w1.heap[w.heap.size]? = some (.cells #[.int .i64 fa, .int .i64 fw, .int .i64 fk, .int .i64 ft] 78 (0, 0))) := Lib.hid ((hb1.block _ HZ0.out).trans HR0.out)
  have HZ1 : Hid (w.heap.size < w1.heap.size) := Lib.hid (Nat.lt_of_lt_of_le HZ0.out hb1.size)
  clear hb1
  by_cases hO : O.size ≤ 65536
  · have hOz : ¬ (65536 : Int) < (O.size : Int) := by omega
    by_cases hV : V.size ≤ 65536
    · have hVz : ¬ (65536 : Int) < (V.size : Int) := by omega
      have hOl : O.data.toList.length ≤ 65536 := by rw [← Lib.size_eq]; exact hO
      have hVl : V.data.toList.length ≤ 65536 := by rw [← Lib.size_eq]; exact hV
      have HE1 := Lib.hid (HE.out.below B1.out)
      have CN : Hid (Calls Tryz.prog 9 #[.slice none 0 0] w1 fun r w' => ∃ S P, r = .returned (.tuple #[.pointer (some ⟨P, 0, none⟩), .int .i64 0]) ∧ DS w1 w' S P 0 (newD [])) := Lib.hid (new_ds (t := []) HE1.out (TW.Wide.nil w1) (by decide +kernel))
      obtain ⟨D3, e, D5, D6, tt, is, D7, D8, D9, a1, a2, a3, a4, a5, a6, a7, a8⟩ := _root_.Go.Proofs.YtfbhbadcgecgmaaGreatDoor.ST.st_apart O.data.toList V.data.toList ⟨fa, fw, fk, ft⟩ hVl
      have A0 := Lib.hid (_root_.Go.Proofs.YtfbhbadcgecgmaaGreatDoor.ST.st_one O.data.toList hOl)
      have A1 := Lib.hid a1
      have A2 := Lib.hid a2
      have A3 := Lib.hid a3
      have A45 := Lib.hid (And.intro a4 a5)
      have A6 := Lib.hid a6
      have A7 := Lib.hid a7
      have A8 := Lib.hid a8
      clear hO hV hOl hVl a1 a2 a3 a4 a5 a6 a7 a8
      repeat (first | (go_at_call 9; fail) | go_skip | go_guarded | go_step | go_upon)
      refine CN.out.mono ?_
      rintro r w2 ⟨S, P, rfl, h2⟩
      simp only []
      have CS : Hid (Calls Tryz.prog 26 #[.pointer (some ⟨P, 0, none⟩), .string ⟨#[97]⟩, .string O] w2 fun r W' => r = .returned (.int .i64 0) ∧ Aft w1 w2 S P 4 (apD1 O.data.toList) W') := Lib.hid (by
        have := save_any w1 w2 S P 0 (newD []) pA O.data.toList h2 HE1.out (by omega) (by unfold maxLen; decide)
        rw [A0.out, TM.txt_data O] at this
        exact this)
      clear h2
      repeat (first | (go_at_call 26; fail) | go_skip | go_guarded | go_step | go_upon)
      refine CS.out.mono ?_
      rintro r w3 ⟨rfl, S3, h3, _, _⟩
      simp only []
      have hbox := (h3.bel.block _ (Array.getElem?_eq_some_iff.1 HR1.out).1).trans HR1.out
      obtain ⟨c0, c1, c2, c3, cf⟩ := row4 hbox
      have CF := Lib.hid (h3.boot1 ⟨fa, fw, fk, ft⟩ rfl)
      clear h3 hbox
      repeat (first | (go_at_call 16; fail) | go_skip | go_guarded | go_step | go_upon)
      refine CF.out.mono ?_
      rintro r w4 ⟨rfl, S4, h4, _, _⟩
      simp only []
      have CS2 : Hid (Calls Tryz.prog 26 #[.pointer (some ⟨P, 0, none⟩), .string ⟨#[98]⟩, .string V] w4 fun r W' => r = .returned (.int .i64 e) ∧ Aft w1 w4 S4 P 8 D3 W') := Lib.hid (by
        have := save_any w1 w4 S4 P 4 _ pB V.data.toList h4 HE1.out (by omega) (by unfold maxLen; decide)
        rw [A1.out, TM.txt_data V] at this
        exact this)
      clear h4 c0 c1 c2 c3 cf
      repeat (first | (go_at_call 26; fail) | go_skip | go_guarded | go_step | go_upon)
      refine CS2.out.mono ?_
      rintro r w5 ⟨rfl, S5, h5, _, _⟩
      simp only []
      have CB := Lib.hid h5.boot0
      clear h5
      repeat (first | (go_at_call 16; fail) | go_skip | go_guarded | go_step | go_upon)
      refine CB.out.mono ?_
      rintro r w6 ⟨rfl, S6, h6, _, _⟩
      simp only []
      obtain ⟨sS, hsS, hsd⟩ := txt_of tt
      have CL : Hid (Calls Tryz.prog 28 #[.pointer (some ⟨P, 0, none⟩), .string ⟨#[97]⟩] w6 fun r W' => r = .returned (.tuple #[.string O, .bool true, .int .i64 0]) ∧ Aft w1 w6 S6 P 9 D5 W') := Lib.hid (by
        have := load_any w1 w6 S6 P 8 _ pA h6 HE1.out (by omega) (by unfold maxLen; decide)
        rw [A2.out] at this
        simp only at this
        rw [TM.txt_data O] at this
        exact this)
      clear h6
      repeat (first | (go_at_call 28; fail) | go_skip | go_guarded | go_step | go_upon)
      refine CL.out.mono ?_
      rintro r w7 ⟨rfl, S7, h7, _, _⟩
      simp only []
      have CL2 : Hid (Calls Tryz.prog 28 #[.pointer (some ⟨P, 0, none⟩), .string ⟨#[98]⟩] w7 fun r W' => r = .returned (.tuple #[.string sS, .bool is, .int .i64 0]) ∧ Aft w1 w7 S7 P 10 D6 W') := Lib.hid (by
        have := load_any w1 w7 S7 P 9 _ pB h7 HE1.out (by omega) (by unfold maxLen; decide)
        rw [A3.out] at this
        simp only at this
        rw [hsS] at this
        exact this)
      clear h7
      repeat (first | (go_at_call 28; fail) | go_skip | go_guarded | go_step | go_upon)
      refine CL2.out.mono ?_
      rintro r w8 ⟨rfl, S8, h8, _, _⟩
      simp only []
      have CC : Hid (Calls Tryz.prog 30 #[.pointer (some ⟨P, 0, none⟩), .string ⟨#[97]⟩] w8 fun r W' => r = .returned (.int .i64 0) ∧ Aft w1 w8 S8 P 12 D7 W') := Lib.hid (by
        have := clear_any w1 w8 S8 P 10 _ pA h8 HE1.out (by omega) (by unfold maxLen; decide)
        rw [A6.out] at this
        exact this)
      have HsS := Lib.hid hsS
      have hq1 : (O.toList == O.toList) = true := by simp
      have hq2 : (sS.toList == sS.toList) = true := by simp
      have hgo : (is = true ∧ (sS.toList == V.toList) = true) ∨ (is = false ∧ (e == 0) = false) := by
        obtain ⟨q1, q2⟩ := A45.out
        cases is with
        | true => exact .inl ⟨rfl, by rw [Lib.toList_data, Lib.toList_data, hsd, q1 rfl]; simp⟩
        | false => exact .inr ⟨rfl, by simpa using fun h => absurd (q2 h) (by simp)⟩
      clear h8 hsS hsd A45
      obtain ⟨be, hbe⟩ : ∃ b, (e == 0) = b := ⟨_, rfl⟩
      have hgo2 : (is = true ∧ be = true ∧ (sS.toList == V.toList) = true) ∨ (is = true ∧ be = false ∧ (sS.toList == V.toList) = true) ∨ (is = false ∧ be = false) := by
        rcases hgo with ⟨h1, h2⟩ | ⟨h1, h2⟩
        · cases be
          · exact .inr (.inl ⟨h1, rfl, h2⟩)
          · exact .inl ⟨h1, rfl, h2⟩
        · exact .inr (.inr ⟨h1, by rw [← hbe]; exact h2⟩)
      clear hgo
      rcases hgo2 with ⟨rfl, rfl, hv⟩ | ⟨rfl, rfl, hv⟩ | ⟨rfl, rfl⟩
      all_goals
        repeat (first | (go_at_call 30; fail) | go_skip | go_guarded | go_step | go_upon)
        refine CC.out.mono ?_
        rintro r w9 ⟨rfl, S9, h9, _, _⟩
        simp only []
        have CL3 : Hid (Calls Tryz.prog 28 #[.pointer (some ⟨P, 0, none⟩), .string ⟨#[97]⟩] w9 fun r W' => r = .returned (.tuple #[.string ⟨#[]⟩, .bool false, .int .i64 0]) ∧ Aft w1 w9 S9 P 13 D8 W') := Lib.hid (by
          have := load_any w1 w9 S9 P 12 _ pA h9 HE1.out (by omega) (by unfold maxLen; decide)
          rw [A7.out] at this
          exact this)
        clear h9
        repeat (first | (go_at_call 28; fail) | go_skip | go_guarded | go_step | go_upon)
        refine CL3.out.mono ?_
        rintro r w10 ⟨rfl, S10, h10, _, _⟩
        simp only []
        have CL4 := Lib.hid (load_any w1 w10 S10 P 13 _ pB h10 HE1.out (by omega) (by unfold maxLen; decide))
        rw [A8.out] at CL4
        simp only at CL4
        rw [HsS.out, show txt pB = .string ⟨#[98]⟩ from rfl] at CL4
        clear h10
        repeat (first | (go_at_call 28; fail) | go_skip | go_guarded | go_step | go_upon)
        refine CL4.out.mono ?_
        rintro r w11 ⟨rfl, S11, h11, _, _⟩
        simp only []
        have HB11 := Lib.hid h11.bel
        clear h11
        repeat (first | go_skip | go_guarded | go_step | go_upon)
        go_ret
        exact ⟨rfl, Below.trans B1.out (HB11.out.mono B1.out.size)⟩
    · have hVz : (65536 : Int) < (V.size : Int) := by omega
      clear hO hV
      repeat (first | go_skip | go_guarded | go_step | go_upon)
      go_ret
      exact ⟨rfl, B1.out⟩
  · have hOz : (65536 : Int) < (O.size : Int) := by omega
    clear hO
    repeat (first | go_skip | go_guarded | go_step | go_upon)
    go_ret
    exact ⟨rfl, B1.out⟩
end DG
end Go.Proofs.YtfbhbadcgecgmaaGreatDoor
