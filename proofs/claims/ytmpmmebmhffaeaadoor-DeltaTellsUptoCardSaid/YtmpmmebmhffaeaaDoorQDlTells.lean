/- Layer 14: the walk of DeltaTells. -/
import Derived.Test.YtmpmmebmhffaeaaDoorQDlRmk
import Derived.Test.YtmpmmebmhffaeaaDoorQDlArg
set_option linter.all false
set_option maxRecDepth 100000
set_option maxHeartbeats 25600000
namespace Go.Proofs.YtmpmmebmhffaeaaDoor
open Go.RowKit Go.Lib Go.BigFrame Go.Maps
namespace DM
open OM DL HP HS

set_option maxRecDepth 100000 in
theorem rmake_no (s : ByteArray) (z : Int) (v : Value) (w : World) (hz : ¬ (1 ≤ z ∧ z ≤ 65536)) :
    Calls Tryd.prog 10 #[.string s, v, .int .i64 z] w fun r w' => r = .returned (.tuple #[.slice none 0 0, .int .i64 2]) ∧ w = w' := by
  by_cases h1 : z < 1
  · go_enter Tryd.func10, Tryd.ntmps10
    repeat (first | go_skip | go_guarded | go_step | go_upon)
    go_ret2
    exact ⟨rfl, rfl⟩
  · have h2 : 65536 < z := by omega
    go_enter Tryd.func10, Tryd.ntmps10
    repeat (first | go_skip | go_guarded | go_step | go_upon)
    go_ret2
    exact ⟨rfl, rfl⟩
/-- Both answers of a call that makes a list of blocks. -/
def GivesB (f : FuncId) (args : Array Value) (L : List Bk) (E : Int) (W : World) : Prop :=
  Calls Tryd.prog f args W fun r w' => ∃ v, r = .returned (.tuple #[v, .int .i64 E]) ∧ w'.ownsRow W.heap.size 33 3 v L.length (blkC L) ∧ Below W.heap.size W w'
def GivesO (f : FuncId) (args : Array Value) (M : List Stp) (E : Int) (W : World) : Prop :=
  Calls Tryd.prog f args W fun r w' => ∃ v, r = .returned (.tuple #[v, .int .i64 E]) ∧ w'.ownsRow W.heap.size 46 3 v M.length (opC M) ∧ Below W.heap.size W w'
theorem tells_calls (s d : ByteArray) (z : Int) (xs : List Bk) (w : World) (he : HQ.Env w) (hs : s.size ≤ 300) (hd : d.size ≤ 300) (hn : xs.length ≤ 1048576) (hok : ∀ b ∈ xs, BkOk b) :
    ∃ (L : List Bk) (E : Int) (M : List Stp) (E2 : Int), L.length ≤ 300 ∧ M.length ≤ 8388608 ∧ (∀ W, Below w.heap.size w W → GivesB 7 #[.string s, .int .i64 z] L E W) ∧ (∀ W, GivesB 8 #[.string s, .int .i64 z] L E W) ∧
      (∀ W a c, Below w.heap.size w W → LayB W a (L ++ xs) → GivesO 9 #[.string d, .slice a (L ++ xs).length c, .int .i64 z] M E2 W) ∧ (∀ W a c, LayB W a (L ++ xs) → GivesO 10 #[.string d, .slice a (L ++ xs).length c, .int .i64 z] M E2 W) := by
  by_cases hz : 1 ≤ z ∧ z ≤ 65536
  · obtain ⟨sz, rfl⟩ : ∃ sz : Nat, z = sz := ⟨z.toNat, by omega⟩
    have h1 : 1 ≤ sz := by omega
    have h2 : sz ≤ 65536 := by omega
    have hl : (signL s.data.toList sz).length ≤ 300 := by
      rw [sign_len, ← size_data]
      exact Nat.le_trans (cnt_le h1) hs
    have hOK : ∀ b ∈ signL s.data.toList sz ++ xs, BkOk b := fun b hb => by
      rcases List.mem_append.1 hb with hb | hb
      · exact sign_ok (by rw [← size_data]; omega) h2 b hb
      · exact hok b hb
    refine ⟨signL s.data.toList sz, 0, makeL d.data.toList (signL s.data.toList sz ++ xs) sz, 0, hl, ?_, fun W hW => sign_any s sz W (he.below hW) h1 h2 (by omega), fun W => rsign_any s sz W h1 h2 hs, fun W a c hW hL => make_any d sz _ a c W (he.below hW) hL h1 h2 (by omega) (by rw [List.length_append]; omega) hOK, fun W a c hL => rmake_any d sz _ a c W hL h1 h2 hd (by rw [List.length_append]; omega)⟩
    have := makeL_len d.data.toList (signL s.data.toList sz ++ xs) h1
    rw [← size_data] at this
    omega
  · refine ⟨[], 2, [], 2, Nat.zero_le _, Nat.zero_le _, fun W _ => (sign_no s z W hz).mono ?_, fun W => (rsign_no s z W hz).mono ?_, fun W a c _ _ => (make_no d z _ W hz).mono ?_, fun W a c _ => (rmake_no d z _ W hz).mono ?_⟩
    all_goals
      rintro r w' ⟨rfl, rfl⟩
      exact ⟨_, rfl, World.ownsRow_nil _ _ _ _, Below.refl _ _⟩
set_option maxRecDepth 100000 in
set_option maxHeartbeats 25600000 in
theorem tells_law (s d : ByteArray) (z : Int) (xs : List Bk) (ab : Option Addr) (cb : Nat) (w : World) (he : HQ.Env w) (hl : LayB w ab xs) (hs : s.size ≤ 1048576) (hd : d.size ≤ 1048576) (hn : xs.length ≤ 1048576) (hok : ∀ b ∈ xs, BkOk b) :
    Calls Tryd.prog 3 #[.string s, .string d, .agg #[.int .i64 z, .slice ab xs.length cb]] w fun r w' => r = .returned (.bool true) ∧ Below w.heap.size w w' := by
  have CW := Lib.hid (fun (W : World) (hW : Below w.heap.size w W) => awake_any W (he.below hW))
  obtain ⟨nx, hnx⟩ : ∃ nx, xs.length = nx := ⟨_, rfl⟩
  have HNX := Lib.hid hnx
  have hnxl : nx ≤ 1048576 := by omega
  have HB0 : Hid (Below w.heap.size w (w.alloc (.cells #[.int .i64 z, .slice ab nx cb] 24))) := Lib.hid ((Below.refl _ _).alloc (Nat.le_refl _) _)
  have HR0 : Hid ((w.alloc (.cells #[.int .i64 z, .slice ab nx cb] 24)).heap[w.heap.size]? = some (.cells #[.int .i64 z, .slice ab nx cb] 24 (0, 0))) := Lib.hid (heap_alloc_new w _)
  by_cases hsb : 300 < s.size
  · rw [hnx]
    have hsz : (300 : Int) < s.size := by omega
    clear hl he hnx
    go_enter Tryd.func3, Tryd.ntmps3
    repeat (first | go_skip | go_guarded | go_step | go_upon)
    refine (CW.out _ HB0.out).mono ?_
    rintro r w1 ⟨rfl, hb1⟩
    simp only []
    have HB1 := Lib.hid (HB0.out.trans (hb1.mono HB0.out.size))
    clear hb1
    repeat (first | go_skip | go_guarded | go_step | go_upon)
    go_ret
    exact ⟨rfl, HB1.out⟩
  · by_cases hdb : 300 < d.size
    · rw [hnx]
      have hsz : ¬ (300 : Int) < s.size := by omega
      have hdz : (300 : Int) < d.size := by omega
      clear hl he hnx
      go_enter Tryd.func3, Tryd.ntmps3
      repeat (first | go_skip | go_guarded | go_step | go_upon)
      refine (CW.out _ HB0.out).mono ?_
      rintro r w1 ⟨rfl, hb1⟩
      simp only []
      have HB1 := Lib.hid (HB0.out.trans (hb1.mono HB0.out.size))
      clear hb1
      repeat (first | go_skip | go_guarded | go_step | go_upon)
      go_ret
      exact ⟨rfl, HB1.out⟩
    · obtain ⟨L, E, M, E2, hLl, hMl, h1, h2, h3, h4⟩ := tells_calls s d z xs w he (by omega) (by omega) hn hok
      unfold GivesB at h1 h2
      unfold GivesO at h3 h4
      have C1 := Lib.hid h1
      have C2 := Lib.hid h2
      have C3 := Lib.hid h3
      have C4 := Lib.hid h4
      obtain ⟨nl, hnl⟩ : ∃ nl, L.length = nl := ⟨_, rfl⟩
      have HNL := Lib.hid hnl
      obtain ⟨na, hna⟩ : ∃ na, (L ++ xs).length = na := ⟨_, rfl⟩
      have HNA := Lib.hid hna
      have hnax : na = nl + nx := by rw [← hna, List.length_append, hnl, hnx]
      have hnal : na ≤ 2097152 := by omega
      have HNAX := Lib.hid hnax
      rw [hnl] at C1 C2
      rw [hna] at C3 C4
      obtain ⟨nm, hnm⟩ : ∃ nm, M.length = nm := ⟨_, rfl⟩
      have HNM := Lib.hid hnm
      rw [hnm] at C3 C4
      have HL := Lib.hid hl
      have CSm : Hid (∀ W a1 c1 a2 c2, LayO W a1 M → LayO W a2 M → Calls Tryd.prog 11 #[.slice a1 nm c1, .slice a2 nm c2] W fun r w' => r = .returned (.bool true) ∧ Below W.heap.size W w') := Lib.hid (fun W a1 c1 a2 c2 h1 h2 => by
        have := rsame14_any a1 a2 c1 c2 M M W h1 h2 (by unfold maxLen; omega) (by unfold maxLen; omega)
        rw [decide_eq_true rfl, hnm] at this
        exact this)
      have hE : (E != E) = false := by simp
      have hE2 : (E2 == E2) = true := by simp
      rw [hnx]
      have hsz : ¬ (300 : Int) < s.size := by omega
      have hdz : ¬ (300 : Int) < d.size := by omega
      have hlz : nl ≤ 300 := by omega
      clear hl he h1 h2 h3 h4 hnx hnl hna hnm hLl hnax
      go_enter Tryd.func3, Tryd.ntmps3
      repeat (first | go_skip | go_guarded | go_step | go_upon)
      refine (CW.out _ HB0.out).mono ?_
      rintro r w1 ⟨rfl, hb1⟩
      simp only []
      have HB1 := Lib.hid (HB0.out.trans (hb1.mono HB0.out.size))
      have HR1 := Lib.hid (row_keep HR0.out hb1)
      clear hb1
      obtain ⟨x0, x1, -⟩ := row2 HR1.out
      repeat (first | go_skip | go_guarded | go_step | go_upon)
      refine (C1.out _ HB1.out).mono ?_
      rintro r w2 ⟨v, rfl, ho2, hb2⟩
      rw [← HNL.out] at ho2
      have HO2 := Lib.hid ho2
      obtain ⟨a2, c2, rfl, hl2⟩ := lay3_own ho2
      rw [HNL.out] at HO2 ⊢
      simp only []
      have HL2 := Lib.hid hl2
      have HB2 := Lib.hid (HB1.out.trans (hb2.mono HB1.out.size))
      have HB12 := Lib.hid hb2
      have HR2 := Lib.hid (row_keep HR1.out hb2)
      clear ho2 hl2 hb2 x0 x1
      obtain ⟨x0, x1, -⟩ := row2 HR2.out
      repeat (first | go_skip | go_guarded | go_step | go_upon)
      refine (C2.out _).mono ?_
      rintro r w3 ⟨v, rfl, ho3, hb3⟩
      rw [← HNL.out] at ho3
      obtain ⟨a3, c3, rfl, hl3⟩ := lay3_own ho3
      rw [HNL.out]
      simp only []
      have HL3 := Lib.hid hl3
      have HL23 := Lib.hid (HL2.out.below hb3)
      have HO23 := Lib.hid (owns_below HO2.out hb3)
      have HB3 := Lib.hid (HB2.out.trans (hb3.mono HB2.out.size))
      have HB13 := Lib.hid (HB12.out.trans (hb3.mono HB12.out.size))
      have HR3 := Lib.hid (row_keep HR2.out hb3)
      clear ho3 hl3 hb3 x0 x1
      repeat (first | go_skip | go_guarded | go_step | go_upon)
      go_loopw [53] (fun s53 wr => ∃ k : Nat, s53 = .int .i64 k ∧ k ≤ nl ∧ Below w3.heap.size w3 wr) (fun s53 _ => nl - (Go.RowKit.intOf s53).toNat)
      case atStart => exact ⟨0, rfl, Nat.zero_le _, Below.refl _ _⟩
      case round =>
        obtain ⟨k, rfl, hk, hbk⟩ := hrel
        have HBk := Lib.hid hbk
        clear hbk
        by_cases hlt : k < nl
        · have hkz : (k : Int) < nl := by omega
          obtain ⟨g2, o2, rfl, _, hc2⟩ := (HL23.out.below HBk.out) (by rw [HNL.out]; omega)
          obtain ⟨g3, o3, rfl, _, hc3⟩ := (HL3.out.below HBk.out) (by rw [HNL.out]; omega)
          obtain ⟨x, hx⟩ : ∃ x, L[k]? = some x := ⟨L[k]'(by rw [HNL.out]; exact hlt), List.getElem?_eq_getElem _⟩
          obtain ⟨p0, p1, p2⟩ := hc2 k x hx
          obtain ⟨q0, q1, q2⟩ := hc3 k x hx
          have hee := fun W => eq_bk x x W
          rw [decide_eq_true rfl] at hee
          obtain ⟨b0, b1, b2⟩ := x
          unfold bkV at hee
          simp only [bW, bS, bN, DM.txt] at p0 p1 p2 q0 q1 q2 hee
          obtain ⟨Y, hY⟩ : ∃ Y : ByteArray, ⟨b1.toArray⟩ = Y := ⟨_, rfl⟩
          rw [hY] at p1 q1 hee
          clear hc2 hc3 hx hlt hY
          repeat (first | go_skip | go_guarded | go_step | go_upon)
          go_quiet (fail)
          rename_i nq
          have HBk2 := Lib.hid (HBk.out.trans ((drew_out wr nq).mono HBk.out.size))
          clear p0 p1 p2 q0 q1 q2 hee
          generalize wr.drewN nq = wr2 at HBk2 ⊢
          repeat (first | go_skip | go_guarded | go_step | go_upon)
          exact ⟨⟨k + 1, by go_num, by omega, HBk2.out⟩, by simp [Go.RowKit.intOf]; omega⟩
        · have hkz : ¬ (k : Int) < nl := by omega
          obtain rfl : k = nl := by omega
          clear hlt
          have HR4 := Lib.hid (row_keep HR3.out HBk.out)
          have HO4 := Lib.hid (owns_below HO23.out HBk.out)
          have HB4 := Lib.hid (HB3.out.trans (HBk.out.mono HB3.out.size))
          have HB14 := Lib.hid (HB13.out.trans (HBk.out.mono HB13.out.size))
          obtain ⟨x0, x1, -⟩ := row2 HR4.out
          -- all := append(l, x.Blocks...)
          obtain ⟨v5, w5, hrun5, ho5, hg5⟩ := run_copyB wr w1.heap.size ab cb nx k (blkC L) xs _ (HL.out.below HB4.out) HO4.out HB14.out.size (by rw [HNX.out]; omega) HNX.out
          have HO5 : Hid (w5.ownsRow w1.heap.size 33 3 v5 (L ++ xs).length (blkC (L ++ xs))) := Lib.hid (by
            rw [HNA.out, HNAX.out]
            have e : blkC (L ++ xs) = blkC L ++ blkC xs := c3_app L xs
            rw [e]
            exact ho5)
          have HB15 : Hid (Below w1.heap.size w1 w5) := Lib.hid (HB14.out.grown hg5 HB14.out.size (fun j hj => (HO4.out.lt j hj).1))
          obtain ⟨a5, c5, hv5, hl5⟩ := lay3_own HO5.out
          subst hv5
          rw [HNA.out] at hrun5
          have HL5 := Lib.hid hl5
          have HB5 := Lib.hid (HB1.out.trans (HB15.out.mono HB1.out.size))
          have HR5 := Lib.hid (row_keep HR1.out HB15.out)
          clear ho5 hg5 hl5
          -- in := append([]api.Block{}, all...)
          have ho6 : (w5.alloc (.cells #[] 33)).ownsRow w5.heap.size 33 3 (.slice (some ⟨w5.heap.size, 0, none⟩) 0 0) 0 [] := World.ownsRow_made (base := w5.heap.size) (e := 33) (size := 3) w5 #[] 0 (Nat.le_refl _) (Nat.zero_le _) rfl
          have hb6 : Below w5.heap.size w5 (w5.alloc (.cells #[] 33)) := (Below.refl _ _).alloc (Nat.le_refl _) _
          obtain ⟨v7, w7, hrun7, ho7, hg7⟩ := run_copyB _ w5.heap.size a5 c5 na 0 [] (L ++ xs) _ (HL5.out.below hb6) ho6 hb6.size (by rw [HNA.out]; omega) HNA.out
          rw [Nat.zero_add, List.nil_append] at ho7
          have HO7 : Hid (w7.ownsRow w5.heap.size 33 3 v7 (L ++ xs).length (blkC (L ++ xs))) := Lib.hid (by rw [HNA.out]; exact ho7)
          have HB57 : Hid (Below w5.heap.size w5 w7) := Lib.hid (hb6.grown hg7 hb6.size (fun j hj => by
            have h4 : some w5.heap.size = some j := hj
            injection h4 with h4
            omega))
          obtain ⟨a7, c7, hv7, hl7⟩ := lay3_own HO7.out
          subst hv7
          rw [HNA.out] at hrun7
          have HL7 := Lib.hid hl7
          have HL57 := Lib.hid (HL5.out.below HB57.out)
          have HB7 := Lib.hid (HB5.out.trans (HB57.out.mono HB5.out.size))
          have HR7 := Lib.hid (row_keep HR5.out HB57.out)
          clear ho6 hb6 ho7 hg7 hl7
          clear HO5 HO7 HO4 HO23 HO2
          obtain ⟨y0, y1, -⟩ := row2 HR7.out
          repeat (first | (at_builtin; refine wpList_append_run _ rfl _ _ _ _ rfl _ _ rfl rfl _ _ hrun5 ?_; clear hrun5) | (at_builtin; refine wpList_append_run _ rfl _ _ _ _ rfl _ _ rfl rfl _ _ hrun7 ?_; clear hrun7) | go_skip | go_guarded | go_step | go_upon)
          refine (C3.out _ a7 c7 HB7.out HL7.out).mono ?_
          rintro r w8 ⟨v, rfl, ho8, hb8⟩
          rw [← HNM.out] at ho8
          obtain ⟨a8, c8, rfl, hl8⟩ := lay3_own ho8
          rw [HNM.out]
          simp only []
          have HL8 := Lib.hid hl8
          have HR8 := Lib.hid (row_keep HR7.out hb8)
          have HA8 := Lib.hid (HL57.out.below hb8)
          have HI8 := Lib.hid (HL7.out.below hb8)
          have HB8 := Lib.hid (HB7.out.trans (hb8.mono HB7.out.size))
          clear ho8 hl8 hb8 x0 x1 y0 y1
          obtain ⟨x0, x1, -⟩ := row2 HR8.out
          repeat (first | go_skip | go_guarded | go_step | go_upon)
          refine (C4.out _ a5 c5 HA8.out).mono ?_
          rintro r w9 ⟨v, rfl, ho9, hb9⟩
          rw [← HNM.out] at ho9
          obtain ⟨a9, c9, rfl, hl9⟩ := lay3_own ho9
          rw [HNM.out]
          simp only []
          have HL9 := Lib.hid hl9
          have HL89 := Lib.hid (HL8.out.below hb9)
          have HA9 := Lib.hid (HA8.out.below hb9)
          have HI9 := Lib.hid (HI8.out.below hb9)
          have HB9 := Lib.hid (HB8.out.trans (hb9.mono HB8.out.size))
          clear ho9 hl9 hb9 x0 x1
          repeat (first | go_skip | go_guarded | go_step | go_upon)
          go_loopw [91] (fun s91 wr2 => ∃ m : Nat, s91 = .int .i64 m ∧ m ≤ na ∧ Below w9.heap.size w9 wr2) (fun s91 _ => na - (Go.RowKit.intOf s91).toNat)
          case atStart => exact ⟨0, rfl, Nat.zero_le _, Below.refl _ _⟩
          case round =>
            obtain ⟨m, rfl, hm, hbm⟩ := hrel
            have HBm := Lib.hid hbm
            clear hbm
            by_cases hlt : m < na
            · have hmz : (m : Int) < na := by omega
              obtain ⟨g2, o2, rfl, _, hc2⟩ := (HI9.out.below HBm.out) (by rw [HNA.out]; omega)
              obtain ⟨g3, o3, rfl, _, hc3⟩ := (HA9.out.below HBm.out) (by rw [HNA.out]; omega)
              obtain ⟨x, hx⟩ : ∃ x, (L ++ xs)[m]? = some x := ⟨(L ++ xs)[m]'(by rw [HNA.out]; exact hlt), List.getElem?_eq_getElem _⟩
              obtain ⟨p0, p1, p2⟩ := hc2 m x hx
              obtain ⟨q0, q1, q2⟩ := hc3 m x hx
              have hee := fun W => eq_bk x x W
              rw [decide_eq_true rfl] at hee
              obtain ⟨b0, b1, b2⟩ := x
              unfold bkV at hee
              simp only [bW, bS, bN, DM.txt] at p0 p1 p2 q0 q1 q2 hee
              obtain ⟨Y, hY⟩ : ∃ Y : ByteArray, ⟨b1.toArray⟩ = Y := ⟨_, rfl⟩
              rw [hY] at p1 q1 hee
              clear hc2 hc3 hx hlt hY
              repeat (first | go_skip | go_guarded | go_step | go_upon)
              go_quiet (fail)
              rename_i nq
              have HBm2 := Lib.hid (HBm.out.trans ((drew_out wr nq).mono HBm.out.size))
              clear p0 p1 p2 q0 q1 q2 hee
              generalize wr.drewN nq = wr3 at HBm2 ⊢
              repeat (first | go_skip | go_guarded | go_step | go_upon)
              exact ⟨⟨m + 1, by go_num, by omega, HBm2.out⟩, by simp [Go.RowKit.intOf]; omega⟩
            · have hmz : ¬ (m : Int) < na := by omega
              obtain rfl : m = na := by omega
              clear hlt
              have HL10 := Lib.hid (HL9.out.below HBm.out)
              have HL810 := Lib.hid (HL89.out.below HBm.out)
              have HB10 := Lib.hid (HB9.out.trans (HBm.out.mono HB9.out.size))
              repeat (first | go_skip | go_guarded | go_step | go_upon)
              refine (CSm.out _ _ _ _ _ HL810.out HL10.out).mono ?_
              rintro r w11 ⟨rfl, hb11⟩
              simp only []
              have HB11 := Lib.hid (HB10.out.trans (hb11.mono HB10.out.size))
              clear hb11
              repeat (first | go_skip | go_guarded | go_step | go_upon)
              go_ret
              exact ⟨rfl, HB11.out⟩
end DM
end Go.Proofs.YtmpmmebmhffaeaaDoor
