/- Layer 15: the walk of LineRuns. -/
import Derived.Test.YtbklnijmalnnoaaDoorQLnRq
import Derived.Test.YtbklnijmalnnoaaDoorQLnRc
import Derived.Test.YtbklnijmalnnoaaDoorQLnPre
set_option linter.all false
set_option maxRecDepth 100000
set_option maxHeartbeats 25600000
namespace Go.Proofs.YtbklnijmalnnoaaDoor
open Go.RowKit Go.Lib Go.BigFrame
namespace LN
open HP HS RP LP OM RQ HR RF
open HQ (Env crc_any)

theorem packT_len {ls : List (List UInt8)} (h : (framesL 0 ls).length ≤ 1073741824) : (packT ls).length ≤ 1073741824 := by
  unfold packT
  split
  · simp
  · exact h
/-- The loop's state. -/
def PRun (L : Nat) (w : World) (b : Nat) (c f x : Value) (_s13 _s14 _s15 _s16 _s17 _s18 s78 : Value) (wr : World) : Prop :=
  ∃ k : Nat, s78 = .int .i64 k ∧ k ≤ L ∧ Below w.heap.size w wr ∧ Box3 wr b c f x
set_option maxRecDepth 100000 in
set_option maxHeartbeats 12800000 in
theorem lruns_any (ao : Option Addr) (cap : Nat) (ls : List (List UInt8)) (cut flip : Int) (x : UInt8) (s : List UInt8) (w : World) (he : Env w) (h : Lay w ao ls) (hm : (framesL 0 ls).length ≤ 1073741824) (hs : s.length ≤ 1073741824)
    (hc0 : -9223372036854775808 ≤ cut) (hc1 : cut ≤ 9223372036854775807) (hf0 : -9223372036854775808 ≤ flip) (hf1 : flip ≤ 9223372036854775807) :
    Calls Tryd.prog 3 #[.slice ao ls.length cap, faultV cut flip x, txt s] w fun r w' => r = .returned (.bool true) ∧ Below w.heap.size w w' := by
  obtain ⟨y, hy⟩ : ∃ y, x.toNat = y := ⟨_, rfl⟩
  obtain ⟨w0, hw0⟩ : ∃ w0, w.alloc (.cells #[.int .i64 cut, .int .i64 flip, .int .u8 (y : Nat)] 24) = w0 := ⟨_, rfl⟩
  have hb0 : Below w.heap.size w w0 := hw0 ▸ (Below.refl _ _).alloc (Nat.le_refl _) _
  have hx0 : Box3 w0 w.heap.size (.int .i64 cut) (.int .i64 flip) (.int .u8 (y : Nat)) := hw0 ▸ Box3.new w _ _ _ _
  have CA := Lib.hid (awake_any w0 (he.below hb0))
  obtain ⟨L, hL⟩ : ∃ L, ls.length = L := ⟨_, rfl⟩
  have hLm : L ≤ 1073741824 := by have := frames_count ls 0; omega
  have cP := fun W (hW : Below w.heap.size w W) => pack_any ao cap ls W (he.below hW) (h.below hW) hm
  have cP2 := fun W (hW : Below w.heap.size w W) => rpack_any ao cap ls W (h.below hW) hm
  have B0 := Lib.hid hb0
  have X0 := Lib.hid hx0
  have hpl := packT_len hm
  have cC := fun W => carry_any (packT ls) cut flip x W (by unfold maxLen; omega) hc0 hc1 hf0 hf1
  have cC2 := fun W => rcarry_any (packT ls) cut flip x W hpl hc0 hc1 hf0 hf1
  have cD := fun W => carry_any s cut flip x W (by unfold maxLen; omega) hc0 hc1 hf0 hf1
  have cD2 := fun W => rcarry_any s cut flip x W hs hc0 hc1 hf0 hf1
  have cR := fun W (hW : Below w.heap.size w W) => read_call s W (he.below hW) (by omega)
  have cR2 := fun W => rread_any s W hs
  unfold packV at cP cP2
  obtain ⟨P, hP⟩ : ∃ P, packT ls = P := ⟨_, rfl⟩
  obtain ⟨PE, hPE⟩ : ∃ e : Nat, packE ls = e := ⟨_, rfl⟩
  rw [hP, hPE, hL] at cP cP2
  rw [hP] at cC cC2
  unfold txt at cP cP2 cC cC2 cD cD2 cR cR2
  unfold faultV at cC cC2 cD cD2
  rw [hy] at cC cC2 cD cD2
  obtain ⟨TP, hTP⟩ : ∃ T : ByteArray, ⟨P.toArray⟩ = T := ⟨_, rfl⟩
  obtain ⟨TS, hTS⟩ : ∃ T : ByteArray, ⟨s.toArray⟩ = T := ⟨_, rfl⟩
  obtain ⟨TC, hTC⟩ : ∃ T : ByteArray, ⟨(carryL P cut flip x).toArray⟩ = T := ⟨_, rfl⟩
  obtain ⟨TD, hTD⟩ : ∃ T : ByteArray, ⟨(carryL s cut flip x).toArray⟩ = T := ⟨_, rfl⟩
  rw [hTP] at cP cP2
  rw [hTP, hTC] at cC cC2
  rw [hTS, hTD] at cD cD2
  rw [hTS] at cR cR2
  obtain ⟨m, hmm⟩ : ∃ m, (readL s).1 = m := ⟨_, rfl⟩
  obtain ⟨g, hg⟩ : ∃ g, (readL s).2 = g := ⟨_, rfl⟩
  have hr : readL s = (m, g) := by rw [← hmm, ← hg]
  have hml : m.length * 12 ≤ s.length := by rw [← hmm]; exact read_len _ 0 s (Nat.le_refl _)
  obtain ⟨k, hk⟩ : ∃ k, m.length = k := ⟨_, rfl⟩
  have cX := fun W a1 a2 d1 d2 (h1 : Lay W a1 m) (h2 : Lay W a2 m) => texts_same a1 a2 d1 d2 m W h1 h2 (by unfold maxLen; omega)
  rw [hk] at cX
  have q1 := str_eq TP
  have q2 := str_eq TC
  have q3 := str_eq TD
  have CP := Lib.hid cP
  have CP2 := Lib.hid cP2
  have CC := Lib.hid cC
  have CC2 := Lib.hid cC2
  have CD := Lib.hid cD
  have CD2 := Lib.hid cD2
  have CR := Lib.hid cR
  have CR2 := Lib.hid cR2
  have CX := Lib.hid cX
  have HR := Lib.hid hr
  have HK := Lib.hid hk
  have HL := Lib.hid h
  have HLL := Lib.hid hL
  have HEn := Lib.hid he
  have HM := Lib.hid hm
  unfold faultV txt
  rw [hL, hy, hTS]
  have qp : ((PE : Int) == (PE : Int)) = true := by simp
  have hLz : (L : Int) ≤ 1073741824 := by omega
  have hszw := hb0.size
  clear cP cP2 cC cC2 cD cD2 cR cR2 cX hr hml hk hmm hg hTP hTS hTC hTD hP hPE h he hL hm hpl hy hb0 hx0 hs
  go_enter Tryd.func3, Tryd.ntmps3
  repeat (first
    | (go_at_call 6; refine CA.out.mono ?_; rintro r w1 ⟨rfl, hb⟩; simp only []; have B1 := Lib.hid (Below.trans B0.out (hb.mono B0.out.size)); have X1 := Lib.hid (X0.out.below hb); clear hb)
    | (go_at_call 7; refine (CP.out _ B1.out).mono ?_; rintro r w2 ⟨rfl, hb⟩; simp only []; have B2 := Lib.hid (Below.trans B1.out (hb.mono B1.out.size)); have X2 := Lib.hid (X1.out.below hb); clear hb)
    | (go_at_call 8; refine (CP2.out _ B2.out).mono ?_; rintro r w3 ⟨rfl, hb⟩; simp only []; have B3 := Lib.hid (Below.trans B2.out (hb.mono B2.out.size)); have X3 := Lib.hid (X2.out.below hb); obtain ⟨x0, x1, x2, _⟩ := X3.out; clear hb)
    | go_skip | go_guarded | go_step | go_upon)
  have r0 := cell_regrown x0
  have r1 := cell_regrown x1
  have r2 := cell_regrown x2
  have D1 := Lib.hid (reg_of (w := w3) (fun W _ => CC.out W))
  have D2 := Lib.hid (reg_of (w := w3) (fun W _ => CC2.out W))
  have D3 := Lib.hid (reg_of (w := w3) (fun W _ => CD.out W))
  have D4 := Lib.hid (reg_of (w := w3) (fun W _ => CD2.out W))
  with_reducible refine wp_region_quiet_below (by kernel_rfl) (by kernel_rfl) ?_
  repeat (go_big_quiet_step (first | (go_at_call_of 9 (Value.string TP); exact D1.out _ _) | (go_at_call_of 10 (Value.string TP); exact D2.out _ _) | (go_at_call_of 9 (Value.string TS); exact D3.out _ _) | (go_at_call_of 10 (Value.string TS); exact D4.out _ _)))
  refine wpQuiet_nil ?_
  intro _ hw'
  obtain ⟨⟨dq, osq⟩, hw''⟩ := hw'
  subst hw''
  have hbq := below_regrown w3 dq osq
  have B4 := Lib.hid (B3.out.trans (hbq.mono B3.out.size))
  have X4 := Lib.hid (X3.out.below hbq)
  clear r0 r1 r2 x0 x1 x2 hbq
  generalize Go.Sort.grow (redrawn w3 dq) osq = w4 at B4 X4 ⊢
  repeat (first | (go_at_call 11; fail) | go_skip | go_guarded | go_step | go_upon)
  refine (CR.out _ B4.out).mono ?_
  rintro r w5 hp
  obtain ⟨a5, c5, hr5, hl5, -, hb5⟩ := RdPost.out hp HR.out
  rw [HK.out] at hr5
  subst hr5
  simp only []
  have B5 := Lib.hid (Below.trans B4.out (hb5.mono B4.out.size))
  have X5 := Lib.hid (X4.out.below hb5)
  have HL5 := Lib.hid hl5
  clear hp hl5 hb5
  obtain ⟨e, he⟩ : ∃ e : Nat, (if g then 0 else 150 : Nat) = e := ⟨_, rfl⟩
  rw [he]
  have qe : ((e : Int) == (e : Int)) = true := by simp
  repeat (first | (go_at_call 12; fail) | go_skip | go_guarded | go_step | go_upon)
  refine (CR2.out _).mono ?_
  rintro r w6 hp
  obtain ⟨a6, c6, hr6, hl6, -, hb6⟩ := RdPost.out hp HR.out
  rw [HK.out, he] at hr6
  subst hr6
  simp only []
  have B6 := Lib.hid (Below.trans B5.out (hb6.mono B5.out.size))
  have X6 := Lib.hid (X5.out.below hb6)
  have HL6 := Lib.hid hl6
  have HL56 := Lib.hid (HL5.out.below hb6)
  clear hp hl6 hb6
  repeat (first | (go_at_call 13; fail) | go_skip | go_guarded | go_step | go_upon)
  refine (CX.out _ _ _ _ _ HL56.out HL6.out).mono ?_
  rintro r w7 ⟨rfl, hb⟩
  simp only []
  have B7 := Lib.hid (Below.trans B6.out (hb.mono B6.out.size))
  have X7 := Lib.hid (X6.out.below hb)
  clear hb
  repeat (first | go_skip | go_guarded | go_step | go_upon)
  go_loopw [13, 14, 15, 16, 17, 18, 78] (PRun L w w.heap.size (.int .i64 cut) (.int .i64 flip) (.int .u8 (y : Nat))) (fun _ _ _ _ _ _ s78 _ => L - (Go.RowKit.intOf s78).toNat)
  case atStart => exact ⟨0, rfl, Nat.zero_le _, B7.out, X7.out⟩
  case round =>
    obtain ⟨j, rfl, hj, hb, hx⟩ := hrel
    have HB := Lib.hid hb
    have HXb := Lib.hid hx
    have HT := Lib.hid (HL.out.below hb)
    have hbs := hb.size
    clear hb hx
    by_cases hlt : j < L
    · have hjz : (j : Int) < L := by omega
      obtain ⟨b, o, rfl, hblt, hc⟩ := HT.out (by rw [HLL.out]; omega)
      obtain ⟨v, hv⟩ : ∃ v, ls[j]? = some v := ⟨ls[j]'(by rw [HLL.out]; exact hlt), List.getElem?_eq_getElem _⟩
      have c0 := hc j v hv
      have hmem := List.mem_of_getElem? hv
      have hvl := frames_mem 0 hmem
      have CM := fun (i : Int) (h0 : -9223372036854775808 ≤ i) (h1 : i ≤ 9223372036854775807) W (hW : Below w.heap.size w W) => more_any i v W (HEn.out.below hW) h0 h1 (by have := HM.out; unfold maxLen; omega)
      have CM2 := fun (i : Int) (h0 : -9223372036854775808 ≤ i) (h1 : i ≤ 9223372036854775807) W => rmore_any i v W h0 h1 (by have := HM.out; unfold maxLen; omega)
      obtain ⟨i, hi⟩ : ∃ i : Int, (if j = 1 then cut else (j : Int) * 3) = i := ⟨_, rfl⟩
      have hib : -9223372036854775808 ≤ i ∧ i ≤ 9223372036854775807 := by rw [← hi]; split <;> omega
      have cM := CM i hib.1 hib.2
      have cM2 := CM2 i hib.1 hib.2
      unfold moreV at cM cM2
      obtain ⟨TM, hTM⟩ : ∃ T : ByteArray, ⟨(moreT i v).toArray⟩ = T := ⟨_, rfl⟩
      obtain ⟨ME, hME⟩ : ∃ e : Nat, moreE i v = e := ⟨_, rfl⟩
      unfold txt at cM cM2 c0
      rw [hTM, hME] at cM cM2
      obtain ⟨TV, hTV⟩ : ∃ T : ByteArray, ⟨v.toArray⟩ = T := ⟨_, rfl⟩
      rw [hTV] at cM cM2 c0
      have KM := Lib.hid cM
      have KM2 := Lib.hid cM2
      have p1 := str_eq TM
      have p2 : ((ME : Int) == (ME : Int)) = true := by simp
      have hj3 : (j : Int) * 3 ≤ 9223372036854775807 := by omega
      by_cases h1 : j = 1
      · subst h1
        rw [if_pos rfl] at hi
        subst hi
        have xx := HXb.out.c0
        clear cM cM2 CM CM2 hTM hME hTV hmem hvl hv hc hib
        repeat (first
          | (go_at_call 14; refine (KM.out _ HB.out).mono ?_; rintro r w8 ⟨rfl, hb⟩; simp only []; have B8 := Lib.hid (Below.trans HB.out (hb.mono hbs)); have X8 := Lib.hid (HXb.out.below hb); have c8 := (hb.cell (p := ⟨b, o + 1, none⟩) hblt).trans c0; clear hb c0)
          | (go_at_call 15; refine (KM2.out _).mono ?_; rintro r w9 ⟨rfl, hb⟩; simp only []; have B9 := Lib.hid (Below.trans B8.out (hb.mono B8.out.size)); have X9 := Lib.hid (X8.out.below hb); clear hb)
          | go_skip | go_guarded | go_step | go_upon)
        exact ⟨⟨1 + 1, by go_num, by omega, B9.out, X9.out⟩, by simp [Go.RowKit.intOf]; omega⟩
      · rw [if_neg h1] at hi
        subst hi
        have qj : ((j : Int) == 1) = false := by simp; omega
        clear cM cM2 CM CM2 hTM hME hTV hmem hvl hv hc hib
        repeat (first
          | (go_at_call 14; refine (KM.out _ HB.out).mono ?_; rintro r w8 ⟨rfl, hb⟩; simp only []; have B8 := Lib.hid (Below.trans HB.out (hb.mono hbs)); have X8 := Lib.hid (HXb.out.below hb); have c8 := (hb.cell (p := ⟨b, o + j, none⟩) hblt).trans c0; clear hb c0)
          | (go_at_call 15; refine (KM2.out _).mono ?_; rintro r w9 ⟨rfl, hb⟩; simp only []; have B9 := Lib.hid (Below.trans B8.out (hb.mono B8.out.size)); have X9 := Lib.hid (X8.out.below hb); clear hb)
          | go_skip | go_guarded | go_step | go_upon)
        exact ⟨⟨j + 1, by go_num, by omega, B9.out, X9.out⟩, by simp [Go.RowKit.intOf]; omega⟩
    · have hjz : ¬ (j : Int) < L := by omega
      repeat (first | go_skip | go_guarded | go_step | go_upon)
      go_ret
      exact ⟨rfl, HB.out⟩
end LN
end Go.Proofs.YtbklnijmalnnoaaDoor
