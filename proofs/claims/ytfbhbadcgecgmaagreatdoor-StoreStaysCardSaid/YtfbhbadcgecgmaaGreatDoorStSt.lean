/- Layer 10: the walk of StoreStays. -/
import Derived.Test.YtfbhbadcgecgmaaGreatDoorMg7
namespace Go.Proofs.YtfbhbadcgecgmaaGreatDoor
open Go.RowKit Go.Lib Go.BigFrame
namespace DG
open OM TP TM DP DM TG TR FP
open _root_.Go.Proofs.YtfbhbadcgecgmaaGreatDoor.ST (besideL saveD clearD loadD pA pB apD1 Kept calmD)

/-- Texts of the arguments. -/
def StrsA (W : World) (ao : Option Addr) (ts : List ByteArray) : Prop := ts ≠ [] → ∃ g o, ao = some ⟨g, o, none⟩ ∧ g < W.heap.size ∧ ∀ (k : Nat) s, ts[k]? = some s → W.cell? ⟨g, o + k, none⟩ = some (.string s)
theorem StrsA.below {w W : World} {ao : Option Addr} {ts : List ByteArray} (h : StrsA w ao ts) (hb : Below w.heap.size w W) : StrsA W ao ts := fun h0 => by
  obtain ⟨g, o, e, hg, hc⟩ := h h0
  exact ⟨g, o, e, Nat.lt_of_lt_of_le hg hb.size, fun k s hk => (hb.cell (p := ⟨g, o + k, none⟩) hg).trans (hc k s hk)⟩
/-- The disk along the loop. -/
def StK (w W : World) (P k : Nat) (l : List UInt8) (D : Dk) : Prop := ∃ S ns I ck tr, D = calmD ns I ck tr ∧ Kept k l ns I ∧ DS w W S P (4 * k) D
set_option maxRecDepth 100000 in
set_option maxHeartbeats 12800000 in
theorem stStays_any (ao : Option Addr) (cap : Nat) (ts : List ByteArray) (fa fw fk ft : Int) (w : World) (he : NF.Env w) (h : StrsA w ao ts) (hl : ts.length ≤ maxLen) :
    Calls Tryz.prog 6 #[.slice ao ts.length cap, .agg #[.int .i64 fa, .int .i64 fw, .int .i64 fk, .int .i64 ft]] w fun r w' => r = .returned (.bool true) ∧ Below w.heap.size w w' := by
  have HE := Lib.hid he
  have HA := Lib.hid h
  obtain ⟨n, hn⟩ : ∃ n, ts.length = n := ⟨_, rfl⟩
  have HN := Lib.hid hn
  rw [hn] at hl ⊢
  have HL := Lib.hid hl
  have b0 : Below w.heap.size w (w.alloc (.cells #[.int .i64 fa, .int .i64 fw, .int .i64 fk, .int .i64 ft] 78)) := (Below.refl _ _).alloc (Nat.le_refl _) _
  have hr0 := heap_alloc_new w (.cells #[.int .i64 fa, .int .i64 fw, .int .i64 fk, .int .i64 ft] 78)
  obtain ⟨w0, hw0⟩ : ∃ W, w.alloc (.cells #[.int .i64 fa, .int .i64 fw, .int .i64 fk, .int .i64 ft] 78) = W := ⟨_, rfl⟩
  rw [hw0] at b0 hr0
  have CA := Lib.hid (awakeS_any w0 (he.below b0))
  have B0 := Lib.hid b0
  have HR0 := Lib.hid hr0
  have HZ0 : Hid (w.heap.size < w0.heap.size) := Lib.hid (Array.getElem?_eq_some_iff.1 hr0).1
  clear he h hn hl b0 hr0
  go_enter Tryz.func6, Tryz.ntmps6
  repeat (first | (go_at_call 25; fail) | go_skip | go_guarded | go_step | go_upon)
  try rw [hw0]
  clear hw0
  refine CA.out.mono ?_
  rintro r w1 ⟨rfl, hb1⟩
  simp only []
  have B1 : Hid (Below w.heap.size w w1) := Lib.hid (Below.trans B0.out (hb1.mono B0.out.size))
  have HR1 : Hid (w1.heap[w.heap.size]? = some (.cells #[.int .i64 fa, .int .i64 fw, .int .i64 fk, .int .i64 ft] 78 (0, 0))) := Lib.hid ((hb1.block _ HZ0.out).trans HR0.out)
  clear hb1
  have HE1 := Lib.hid (HE.out.below B1.out)
  have CN : Hid (Calls Tryz.prog 9 #[.slice none 0 0] w1 fun r w' => ∃ S P, r = .returned (.tuple #[.pointer (some ⟨P, 0, none⟩), .int .i64 0]) ∧ DS w1 w' S P 0 (newD [])) := Lib.hid (new_ds (t := []) HE1.out (TW.Wide.nil w1) (by decide +kernel))
  repeat (first | (go_at_call 9; fail) | go_skip | go_guarded | go_step | go_upon)
  refine CN.out.mono ?_
  rintro r w2 ⟨S, P, rfl, h2⟩
  simp only []
  have H2 : Hid (StK w1 w2 P 0 [] (newD [])) := Lib.hid ⟨S, [], [], 0, [], rfl, Kept.zero [], h2⟩
  clear h2
  repeat (first | go_skip | go_guarded | go_step | go_upon)
  go_loopw [7, 21] (fun s7 s21 wr => ∃ (k : Nat) (L : ByteArray), s7 = .string L ∧ s21 = .int .i64 k ∧ k ≤ n ∧ k ≤ 10 ∧ (k = 0 → L = ⟨#[]⟩) ∧ ∃ D, StK w1 wr P k L.data.toList D) (fun _ s21 _ => n - (Go.RowKit.intOf s21).toNat)
  case atStart => exact ⟨0, ⟨#[]⟩, rfl, rfl, by omega, by omega, fun _ => rfl, _, H2.out⟩
  case round =>
    obtain ⟨k, L, rfl, rfl, hkn2, hk10, hL0, hs⟩ := hrel
    by_cases hkn : k < n
    · have hknz : (k : Int) < n := by omega
      obtain ⟨x, hx⟩ : ∃ x, ts[k]? = some x := ⟨ts[k]'(by rw [HN.out]; exact hkn), List.getElem?_eq_getElem _⟩
      obtain ⟨g, o, rfl, hg, hc⟩ := HA.out (by intro h; have := HN.out; rw [h] at this; simp at this; omega)
      have cx : wr.cell? ⟨g, o + k, none⟩ = some (.string x) := by
        obtain ⟨D, S3, ns, I, ck, tr, rfl, hK, h3⟩ := hs
        exact ((Below.trans B1.out (h3.bel.mono B1.out.size)).cell (p := ⟨g, o + k, none⟩) hg).trans (hc k x hx)
      clear hc hx hg
      by_cases hk1 : k = 10
      · have hk1b : ((k : Int) == 10) = true := by simp; omega
        have hk10' : k = 10 := hk1
        clear hk1 hkn
        have hkn : k ≠ 0 ∧ 0 < n := by omega
        obtain ⟨D, S3, ns, I, ck, tr, rfl, hK, h3⟩ := hs
        obtain ⟨D1, D2, D3, D4, D5, a1, a2, a3, a4, a5, a6⟩ := _root_.Go.Proofs.YtfbhbadcgecgmaaGreatDoor.ST.kept_end hK (fun h => by rw [hL0 h]) ck tr fk ft
        have A1 := Lib.hid a1
        have A2 := Lib.hid a2
        have A3 := Lib.hid a3
        have A4 := Lib.hid a4
        have A5 := Lib.hid a5
        have A6 := Lib.hid a6
        have hm4 : 4 * k ≤ 40 := by omega
        have HM := Lib.hid hm4
        have hbox := (h3.bel.block _ (Array.getElem?_eq_some_iff.1 HR1.out).1).trans HR1.out
        obtain ⟨c0, c1, c2, c3, cf⟩ := row4 hbox
        have CF := Lib.hid (h3.boot1 ⟨0, 3, fk, ft⟩ rfl)
        clear h3 hbox hK a1 a2 a3 a4 a5 a6 hm4 hL0 hk10 hkn2 hk10'
        repeat (first | (go_at_call 16; fail) | go_skip | go_guarded | go_step | go_upon)
        refine CF.out.mono ?_
        rintro r w4 ⟨rfl, S4, h4, _, _⟩
        simp only []
        have CFl := Lib.hid (h4.flush HE1.out (by have := HM.out; omega))
        rw [A1.out] at CFl
        clear h4 c0 c1 c2 c3 cf
        repeat (first | (go_at_call 33; fail) | go_skip | go_guarded | go_step | go_upon)
        refine CFl.out.mono ?_
        rintro r w5 ⟨rfl, S5, h5, _, _⟩
        simp only []
        have CB := Lib.hid h5.boot0
        clear h5
        repeat (first | (go_at_call 16; fail) | go_skip | go_guarded | go_step | go_upon)
        refine CB.out.mono ?_
        rintro r w6 ⟨rfl, S6, h6, _, _⟩
        simp only []
        have CL : Hid (Calls Tryz.prog 28 #[.pointer (some ⟨P, 0, none⟩), .string ⟨#[97]⟩] w6 fun r W' => r = .returned (.tuple #[.string L, .bool (decide (k ≠ 0)), .int .i64 0]) ∧ Aft w1 w6 S6 P (4 * k + 2) D2 W') := Lib.hid (by
          have := load_any w1 w6 S6 P (4 * k + 1) _ pA h6 HE1.out (by have := HM.out; omega) (by unfold maxLen; decide)
          rw [A2.out] at this
          simp only at this
          rw [TM.txt_data L] at this
          exact this)
        clear h6
        have hq1 : (L.toList == L.toList) = true := by simp
        obtain ⟨hk0, hn0⟩ := hkn

        · have hd0 : decide (k ≠ 0) = true := by simpa using hk0
          rw [hd0] at CL
          have hnz : (0 : Int) < (n : Int) := by omega
          clear hd0 hk0 hn0
          repeat (first | (go_at_call 28; fail) | go_skip | go_guarded | go_step | go_upon)
          refine CL.out.mono ?_
          rintro r w7 ⟨rfl, S7, h7, _, _⟩
          simp only []
          have CC : Hid (Calls Tryz.prog 30 #[.pointer (some ⟨P, 0, none⟩), .string ⟨#[97]⟩] w7 fun r W' => r = .returned (.int .i64 0) ∧ Aft w1 w7 S7 P (4 * k + 4) D3 W') := Lib.hid (by
            have := clear_any w1 w7 S7 P (4 * k + 2) _ pA h7 HE1.out (by have := HM.out; omega) (by unfold maxLen; decide)
            rw [A3.out] at this
            exact this)
          clear h7
          repeat (first | (go_at_call 30; fail) | go_skip | go_guarded | go_step | go_upon)
          refine CC.out.mono ?_
          rintro r w8 ⟨rfl, S8, h8, _, _⟩
          simp only []
          have hbox := (h8.bel.block _ (Array.getElem?_eq_some_iff.1 HR1.out).1).trans HR1.out
          obtain ⟨c0, c1, c2, c3, cf⟩ := row4 hbox
          have CF := Lib.hid (h8.boot1 ⟨0, 3, fk, ft⟩ rfl)
          clear h8 hbox
          repeat (first | (go_at_call 16; fail) | go_skip | go_guarded | go_step | go_upon)
          refine CF.out.mono ?_
          rintro r w9 ⟨rfl, S9, h9, _, _⟩
          simp only []
          have CFl := Lib.hid (h9.flush HE1.out (by have := HM.out; omega))
          rw [A4.out] at CFl
          clear h9 c0 c1 c2 c3 cf
          repeat (first | (go_at_call 33; fail) | go_skip | go_guarded | go_step | go_upon)
          refine CFl.out.mono ?_
          rintro r w10 ⟨rfl, S10, h10, _, _⟩
          simp only []
          have CB := Lib.hid h10.boot0
          clear h10
          repeat (first | (go_at_call 16; fail) | go_skip | go_guarded | go_step | go_upon)
          refine CB.out.mono ?_
          rintro r w11 ⟨rfl, S11, h11, _, _⟩
          simp only []
          have CL2 : Hid (Calls Tryz.prog 28 #[.pointer (some ⟨P, 0, none⟩), .string ⟨#[97]⟩] w11 fun r W' => r = .returned (.tuple #[.string ⟨#[]⟩, .bool false, .int .i64 0]) ∧ Aft w1 w11 S11 P (4 * k + 6) D5 W') := Lib.hid (by
            have := load_any w1 w11 S11 P (4 * k + 5) _ pA h11 HE1.out (by have := HM.out; omega) (by unfold maxLen; decide)
            rw [A5.out] at this
            exact this)
          clear h11
          repeat (first | (go_at_call 28; fail) | go_skip | go_guarded | go_step | go_upon)
          refine CL2.out.mono ?_
          rintro r w12 ⟨rfl, S12, h12, _, _⟩
          simp only []
          have CTr := Lib.hid h12.tree
          have HB12 := Lib.hid h12.bel
          have hT : treeD D5 = [] := by unfold treeD; rw [A6.out]; rfl
          rw [hT] at CTr
          clear h12 hT
          repeat (first | (go_at_call 14; fail) | go_skip | go_guarded | go_step | go_upon)
          refine CTr.out.mono ?_
          rintro r w13 ⟨v13, rfl, ho13, hb13⟩
          simp only []
          obtain ⟨a13, c13, hv13, -⟩ := lay_own ho13
          have HB13 := Lib.hid hb13
          subst hv13
          clear ho13 hb13
          repeat (first | go_skip | go_guarded | go_step | go_upon)
          go_ret
          exact ⟨rfl, Below.trans B1.out ((Below.trans HB12.out (HB13.out.mono HB12.out.size)).mono B1.out.size)⟩
      · have hk1b : ((k : Int) == 10) = false := by simp; omega
        by_cases hx6 : x.size ≤ 65536
        · have hxz : ¬ (65536 : Int) < (x.size : Int) := by omega
          obtain ⟨D, S3, ns, I, ck, tr, rfl, hK, h3⟩ := hs
          obtain ⟨ns', I', tr', a1, a2⟩ := _root_.Go.Proofs.YtfbhbadcgecgmaaGreatDoor.ST.kept_save hK ck tr x.data.toList (by rw [← Lib.size_eq]; exact hx6)
          have CS : Hid (Calls Tryz.prog 26 #[.pointer (some ⟨P, 0, none⟩), .string ⟨#[97]⟩, .string x] wr fun r W' => r = .returned (.int .i64 0) ∧ Aft w1 wr S3 P (4 * k + 4) (calmD ns' I' (ck + 4) tr') W') := Lib.hid (by
            have := save_any w1 wr S3 P (4 * k) _ pA x.data.toList h3 HE1.out (by omega) (by unfold maxLen; decide)
            rw [a1, TM.txt_data x] at this
            exact this)
          have A2 := Lib.hid a2
          have HK1 : Hid (k + 1 ≤ n ∧ k + 1 ≤ 10) := Lib.hid (by omega)
          clear h3 hK a1 a2 hx6 hk1 hkn hkn2 hL0
          repeat (first | (go_at_call 26; fail) | go_skip | go_guarded | go_step | go_upon)
          refine CS.out.mono ?_
          rintro r w3 ⟨rfl, S4, h4, _, _⟩
          simp only []
          have H4 := Lib.hid h4
          clear h4
          repeat (first | go_skip | go_guarded | go_step | go_upon)
          exact ⟨⟨k + 1, x, rfl, by go_num, HK1.out.1, HK1.out.2, (fun h => by omega), _, S4, ns', I', _, tr', rfl, A2.out, by rw [show 4 * (k + 1) = 4 * k + 4 by omega]; exact H4.out⟩, by have := HK1.out; simp [Go.RowKit.intOf]; omega⟩
        · have hxz : (65536 : Int) < (x.size : Int) := by omega
          have HBr : Hid (Below w.heap.size w wr) := Lib.hid (by
            obtain ⟨D, S3, ns, I, ck, tr, rfl, hK, h3⟩ := hs
            exact Below.trans B1.out (h3.bel.mono B1.out.size))
          clear hs hx6
          repeat (first | go_skip | go_guarded | go_step | go_upon)
          go_ret
          exact ⟨rfl, HBr.out⟩
    · have hknz : ¬ (k : Int) < n := by omega
      have hk10' : k = n := by omega
      clear hkn
      have hkn : (k = 0 ∧ n = 0) ∨ (k ≠ 0 ∧ 0 < n) := by omega
      obtain ⟨D, S3, ns, I, ck, tr, rfl, hK, h3⟩ := hs
      obtain ⟨D1, D2, D3, D4, D5, a1, a2, a3, a4, a5, a6⟩ := _root_.Go.Proofs.YtfbhbadcgecgmaaGreatDoor.ST.kept_end hK (fun h => by rw [hL0 h]) ck tr fk ft
      have A1 := Lib.hid a1
      have A2 := Lib.hid a2
      have A3 := Lib.hid a3
      have A4 := Lib.hid a4
      have A5 := Lib.hid a5
      have A6 := Lib.hid a6
      have hm4 : 4 * k ≤ 40 := by omega
      have HM := Lib.hid hm4
      have hbox := (h3.bel.block _ (Array.getElem?_eq_some_iff.1 HR1.out).1).trans HR1.out
      obtain ⟨c0, c1, c2, c3, cf⟩ := row4 hbox
      have CF := Lib.hid (h3.boot1 ⟨0, 3, fk, ft⟩ rfl)
      clear h3 hbox hK a1 a2 a3 a4 a5 a6 hm4 hL0 hk10 hkn2 hk10'
      repeat (first | (go_at_call 16; fail) | go_skip | go_guarded | go_step | go_upon)
      refine CF.out.mono ?_
      rintro r w4 ⟨rfl, S4, h4, _, _⟩
      simp only []
      have CFl := Lib.hid (h4.flush HE1.out (by have := HM.out; omega))
      rw [A1.out] at CFl
      clear h4 c0 c1 c2 c3 cf
      repeat (first | (go_at_call 33; fail) | go_skip | go_guarded | go_step | go_upon)
      refine CFl.out.mono ?_
      rintro r w5 ⟨rfl, S5, h5, _, _⟩
      simp only []
      have CB := Lib.hid h5.boot0
      clear h5
      repeat (first | (go_at_call 16; fail) | go_skip | go_guarded | go_step | go_upon)
      refine CB.out.mono ?_
      rintro r w6 ⟨rfl, S6, h6, _, _⟩
      simp only []
      have CL : Hid (Calls Tryz.prog 28 #[.pointer (some ⟨P, 0, none⟩), .string ⟨#[97]⟩] w6 fun r W' => r = .returned (.tuple #[.string L, .bool (decide (k ≠ 0)), .int .i64 0]) ∧ Aft w1 w6 S6 P (4 * k + 2) D2 W') := Lib.hid (by
        have := load_any w1 w6 S6 P (4 * k + 1) _ pA h6 HE1.out (by have := HM.out; omega) (by unfold maxLen; decide)
        rw [A2.out] at this
        simp only at this
        rw [TM.txt_data L] at this
        exact this)
      clear h6
      have hq1 : (L.toList == L.toList) = true := by simp
      rcases hkn with ⟨hk0, hn0⟩ | ⟨hk0, hn0⟩

      · have hd0 : decide (k ≠ 0) = false := by simpa using hk0
        rw [hd0] at CL
        have hnz : ¬ (0 : Int) < (n : Int) := by omega
        clear hd0 hk0 hn0
        repeat (first | (go_at_call 28; fail) | go_skip | go_guarded | go_step | go_upon)
        refine CL.out.mono ?_
        rintro r w7 ⟨rfl, S7, h7, _, _⟩
        simp only []
        have CC : Hid (Calls Tryz.prog 30 #[.pointer (some ⟨P, 0, none⟩), .string ⟨#[97]⟩] w7 fun r W' => r = .returned (.int .i64 0) ∧ Aft w1 w7 S7 P (4 * k + 4) D3 W') := Lib.hid (by
          have := clear_any w1 w7 S7 P (4 * k + 2) _ pA h7 HE1.out (by have := HM.out; omega) (by unfold maxLen; decide)
          rw [A3.out] at this
          exact this)
        clear h7
        repeat (first | (go_at_call 30; fail) | go_skip | go_guarded | go_step | go_upon)
        refine CC.out.mono ?_
        rintro r w8 ⟨rfl, S8, h8, _, _⟩
        simp only []
        have hbox := (h8.bel.block _ (Array.getElem?_eq_some_iff.1 HR1.out).1).trans HR1.out
        obtain ⟨c0, c1, c2, c3, cf⟩ := row4 hbox
        have CF := Lib.hid (h8.boot1 ⟨0, 3, fk, ft⟩ rfl)
        clear h8 hbox
        repeat (first | (go_at_call 16; fail) | go_skip | go_guarded | go_step | go_upon)
        refine CF.out.mono ?_
        rintro r w9 ⟨rfl, S9, h9, _, _⟩
        simp only []
        have CFl := Lib.hid (h9.flush HE1.out (by have := HM.out; omega))
        rw [A4.out] at CFl
        clear h9 c0 c1 c2 c3 cf
        repeat (first | (go_at_call 33; fail) | go_skip | go_guarded | go_step | go_upon)
        refine CFl.out.mono ?_
        rintro r w10 ⟨rfl, S10, h10, _, _⟩
        simp only []
        have CB := Lib.hid h10.boot0
        clear h10
        repeat (first | (go_at_call 16; fail) | go_skip | go_guarded | go_step | go_upon)
        refine CB.out.mono ?_
        rintro r w11 ⟨rfl, S11, h11, _, _⟩
        simp only []
        have CL2 : Hid (Calls Tryz.prog 28 #[.pointer (some ⟨P, 0, none⟩), .string ⟨#[97]⟩] w11 fun r W' => r = .returned (.tuple #[.string ⟨#[]⟩, .bool false, .int .i64 0]) ∧ Aft w1 w11 S11 P (4 * k + 6) D5 W') := Lib.hid (by
          have := load_any w1 w11 S11 P (4 * k + 5) _ pA h11 HE1.out (by have := HM.out; omega) (by unfold maxLen; decide)
          rw [A5.out] at this
          exact this)
        clear h11
        repeat (first | (go_at_call 28; fail) | go_skip | go_guarded | go_step | go_upon)
        refine CL2.out.mono ?_
        rintro r w12 ⟨rfl, S12, h12, _, _⟩
        simp only []
        have CTr := Lib.hid h12.tree
        have HB12 := Lib.hid h12.bel
        have hT : treeD D5 = [] := by unfold treeD; rw [A6.out]; rfl
        rw [hT] at CTr
        clear h12 hT
        repeat (first | (go_at_call 14; fail) | go_skip | go_guarded | go_step | go_upon)
        refine CTr.out.mono ?_
        rintro r w13 ⟨v13, rfl, ho13, hb13⟩
        simp only []
        obtain ⟨a13, c13, hv13, -⟩ := lay_own ho13
        have HB13 := Lib.hid hb13
        subst hv13
        clear ho13 hb13
        repeat (first | go_skip | go_guarded | go_step | go_upon)
        go_ret
        exact ⟨rfl, Below.trans B1.out ((Below.trans HB12.out (HB13.out.mono HB12.out.size)).mono B1.out.size)⟩
      · have hd0 : decide (k ≠ 0) = true := by simpa using hk0
        rw [hd0] at CL
        have hnz : (0 : Int) < (n : Int) := by omega
        clear hd0 hk0 hn0
        repeat (first | (go_at_call 28; fail) | go_skip | go_guarded | go_step | go_upon)
        refine CL.out.mono ?_
        rintro r w7 ⟨rfl, S7, h7, _, _⟩
        simp only []
        have CC : Hid (Calls Tryz.prog 30 #[.pointer (some ⟨P, 0, none⟩), .string ⟨#[97]⟩] w7 fun r W' => r = .returned (.int .i64 0) ∧ Aft w1 w7 S7 P (4 * k + 4) D3 W') := Lib.hid (by
          have := clear_any w1 w7 S7 P (4 * k + 2) _ pA h7 HE1.out (by have := HM.out; omega) (by unfold maxLen; decide)
          rw [A3.out] at this
          exact this)
        clear h7
        repeat (first | (go_at_call 30; fail) | go_skip | go_guarded | go_step | go_upon)
        refine CC.out.mono ?_
        rintro r w8 ⟨rfl, S8, h8, _, _⟩
        simp only []
        have hbox := (h8.bel.block _ (Array.getElem?_eq_some_iff.1 HR1.out).1).trans HR1.out
        obtain ⟨c0, c1, c2, c3, cf⟩ := row4 hbox
        have CF := Lib.hid (h8.boot1 ⟨0, 3, fk, ft⟩ rfl)
        clear h8 hbox
        repeat (first | (go_at_call 16; fail) | go_skip | go_guarded | go_step | go_upon)
        refine CF.out.mono ?_
        rintro r w9 ⟨rfl, S9, h9, _, _⟩
        simp only []
        have CFl := Lib.hid (h9.flush HE1.out (by have := HM.out; omega))
        rw [A4.out] at CFl
        clear h9 c0 c1 c2 c3 cf
        repeat (first | (go_at_call 33; fail) | go_skip | go_guarded | go_step | go_upon)
        refine CFl.out.mono ?_
        rintro r w10 ⟨rfl, S10, h10, _, _⟩
        simp only []
        have CB := Lib.hid h10.boot0
        clear h10
        repeat (first | (go_at_call 16; fail) | go_skip | go_guarded | go_step | go_upon)
        refine CB.out.mono ?_
        rintro r w11 ⟨rfl, S11, h11, _, _⟩
        simp only []
        have CL2 : Hid (Calls Tryz.prog 28 #[.pointer (some ⟨P, 0, none⟩), .string ⟨#[97]⟩] w11 fun r W' => r = .returned (.tuple #[.string ⟨#[]⟩, .bool false, .int .i64 0]) ∧ Aft w1 w11 S11 P (4 * k + 6) D5 W') := Lib.hid (by
          have := load_any w1 w11 S11 P (4 * k + 5) _ pA h11 HE1.out (by have := HM.out; omega) (by unfold maxLen; decide)
          rw [A5.out] at this
          exact this)
        clear h11
        repeat (first | (go_at_call 28; fail) | go_skip | go_guarded | go_step | go_upon)
        refine CL2.out.mono ?_
        rintro r w12 ⟨rfl, S12, h12, _, _⟩
        simp only []
        have CTr := Lib.hid h12.tree
        have HB12 := Lib.hid h12.bel
        have hT : treeD D5 = [] := by unfold treeD; rw [A6.out]; rfl
        rw [hT] at CTr
        clear h12 hT
        repeat (first | (go_at_call 14; fail) | go_skip | go_guarded | go_step | go_upon)
        refine CTr.out.mono ?_
        rintro r w13 ⟨v13, rfl, ho13, hb13⟩
        simp only []
        obtain ⟨a13, c13, hv13, -⟩ := lay_own ho13
        have HB13 := Lib.hid hb13
        subst hv13
        clear ho13 hb13
        repeat (first | go_skip | go_guarded | go_step | go_upon)
        go_ret
        exact ⟨rfl, Below.trans B1.out ((Below.trans HB12.out (HB13.out.mono HB12.out.size)).mono B1.out.size)⟩
end DG
end Go.Proofs.YtfbhbadcgecgmaaGreatDoor
