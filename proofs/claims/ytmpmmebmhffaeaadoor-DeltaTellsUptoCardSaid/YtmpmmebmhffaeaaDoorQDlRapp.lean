/- Layer 14: the document's Apply. -/
import Derived.Test.YtmpmmebmhffaeaaDoorQDlRef
set_option linter.all false
set_option maxRecDepth 100000
set_option maxHeartbeats 25600000
namespace Go.Proofs.YtmpmmebmhffaeaaDoor
open Go.RowKit Go.Lib Go.BigFrame Go.Maps
namespace DM
open OM DL HP HS

theorem cat_data2 (s t : ByteArray) : (s ++ t).data.toList = s.data.toList ++ t.data.toList := by simp
theorem part_step (s : ByteArray) (F k sz : Nat) : (s.data.toList.drop (F * sz)).take ((k + 1) * sz) = (s.data.toList.drop (F * sz)).take (k * sz) ++ (s.extract ((F + k) * sz) (min ((F + k + 1) * sz) s.size)).data.toList := by
  have e1 : (k + 1) * sz = k * sz + sz := by rw [Nat.add_mul, Nat.one_mul]
  have e2 : (F + k + 1) * sz = (F + k) * sz + sz := by rw [Nat.add_mul, Nat.one_mul]
  have e3 : F * sz + k * sz = (F + k) * sz := (Nat.add_mul F k sz).symm
  rw [e2, drop_ext, e1, List.take_add, List.drop_drop, e3]
theorem strs_own {w : World} {B : Nat} {v : Value} {ls : List ByteArray} (h : w.ownsRow B 9 1 v ls.length (strC ls)) : ∃ ao c, v = .slice ao ls.length c ∧ HX.LayT w ao ls := by
  obtain ⟨ao, c, rfl, hx⟩ := owns_view h
  refine ⟨ao, c, rfl, fun h0 => ?_⟩
  obtain ⟨g, rfl, hg, _, hc⟩ := hx h0
  refine ⟨g, 0, rfl, hg, fun i x hi => ?_⟩
  have hkl := (List.getElem?_eq_some_iff.1 hi).1
  rw [Nat.zero_add, hc i (by omega)]
  unfold strC
  rw [List.getElem?_map, hi]
  rfl
/-- The text so far, and what the rest of the steps make of it. -/
def RaInv (s : ByteArray) (sz : Nat) (ops : List Stp) (R : List UInt8 × Int) (w : World) (s9 s10 : Value) (wr : World) : Prop :=
  ∃ (k : Nat) (out : ByteArray), s10 = .int .i64 k ∧ s9 = .string out ∧ k ≤ ops.length ∧ out.size ≤ 65536 ∧ applyL s.data.toList sz out.data.toList (ops.drop k) = R ∧ Below w.heap.size w wr
theorem textL_copy {base : List UInt8} {sz : Nat} {F C : Int} {T : List UInt8} (h1 : 0 < C) (h2 : T = []) (h3 : 0 ≤ F) (h4 : F + C ≤ cnt base.length sz) : textL base sz (F, C, T) = some ((base.drop (F.toNat * sz)).take (C.toNat * sz)) := by
  unfold textL okT okC
  simp only
  rw [if_neg (by simp; omega), if_pos (by simp; exact ⟨⟨⟨h1, h2⟩, h3⟩, h4⟩)]
theorem textL_no {base : List UInt8} {sz : Nat} {F C : Int} {T : List UInt8} (h1 : okT (F, C, T) = false) (h2 : okC (cnt base.length sz) (F, C, T) = false) : textL base sz (F, C, T) = none := by
  unfold textL
  rw [h1, h2]
  rfl
set_option maxRecDepth 100000 in
set_option maxHeartbeats 12800000 in
theorem rapply_any (s : ByteArray) (sz : Nat) (ops : List Stp) (ao : Option Addr) (c : Nat) (w : World) (hl : LayO w ao ops) (h1 : 1 ≤ sz) (h2 : sz ≤ 65536) (hs : s.size ≤ 1048576) (hn : ops.length ≤ 8388608) (hb : ∀ x ∈ ops, x.2.2.length ≤ 1048576) :
    Calls Tryd.prog 13 #[.string s, .int .i64 sz, .slice ao ops.length c] w fun r w' => r = .returned (.tuple #[.string ⟨(applyL s.data.toList sz [] ops).1.toArray⟩, .int .i64 (applyL s.data.toList sz [] ops).2]) ∧ Below w.heap.size w w' := by
  have CB := Lib.hid (rblocks_any s sz w h1 h2 hs)
  have HBa := Lib.hid (blocksB_at s sz)
  have HBn : Hid (cnt s.size sz = cnt s.data.toList.length sz) := Lib.hid (by rw [← size_data])
  have hbn : cnt s.size sz ≤ 1048576 := Nat.le_trans (cnt_le h1) hs
  obtain ⟨bn, hbnn⟩ : ∃ bn, cnt s.size sz = bn := ⟨_, rfl⟩
  obtain ⟨BL, hBL⟩ : ∃ BL, blocksB s sz = BL := ⟨_, rfl⟩
  have HBL : Hid (BL.length = bn) := Lib.hid (by rw [← hBL, blocksB_len, hbnn])
  rw [hbnn] at CB HBa HBn hbn
  rw [hBL] at CB HBa
  obtain ⟨n, hnn⟩ : ∃ n, ops.length = n := ⟨_, rfl⟩
  have HN := Lib.hid hnn
  have HL := Lib.hid hl
  have HO := Lib.hid hb
  obtain ⟨R, hR⟩ : ∃ R, applyL s.data.toList sz [] ops = R := ⟨_, rfl⟩
  have HR := Lib.hid hR
  rw [hnn] at hn ⊢
  rw [hR]
  have hnz : (n : Int) ≤ 8388608 := by omega
  have hz1 : ¬ (sz : Int) < 1 := by omega
  have hz2 : ¬ (65536 : Int) < sz := by omega
  have hbz : (bn : Int) ≤ 1048576 := by omega
  clear hl hnn hR hb hbnn hBL h1
  go_enter Tryd.func13, Tryd.ntmps13
  repeat (first | go_skip | go_guarded | go_step | go_upon)
  refine CB.out.mono ?_
  rintro r w1 ⟨v, rfl, ho1, hb1⟩
  rw [← HBL.out] at ho1
  obtain ⟨ab, cb, rfl, hlb⟩ := strs_own ho1
  rw [HBL.out]
  simp only []
  have HLB := Lib.hid hlb
  have HB1 := Lib.hid hb1
  clear ho1 hlb hb1 CB
  repeat (first | go_skip | go_guarded | go_step | go_upon)
  go_loopw [9, 10] (fun s9 s10 wr => RaInv s sz ops R w1 s9 s10 wr) (fun _ s10 _ => n - (Go.RowKit.intOf s10).toNat)
  case atStart => exact ⟨0, ⟨#[]⟩, rfl, rfl, Nat.zero_le _, Nat.zero_le _, HR.out, Below.refl _ _⟩
  case round =>
    clear HR
    obtain ⟨k, out, rfl, rfl, hk, ho, hr, hbl⟩ := hrel
    rw [HN.out] at hk
    have HR := Lib.hid hr
    have HB := Lib.hid hbl
    clear hr hbl
    by_cases hlt : k < n
    · have hkz : (k : Int) < n := by omega
      obtain ⟨g, o, rfl, hg, hc⟩ := (HL.out.below (HB1.out.trans (HB.out.mono HB1.out.size))) (by rw [HN.out]; omega)
      obtain ⟨x, hx⟩ : ∃ x, ops[k]? = some x := ⟨ops[k]'(by rw [HN.out]; exact hlt), List.getElem?_eq_getElem _⟩
      have HS := Lib.hid (applyL_step (base := s.data.toList) (sz := sz) (out := out.data.toList) hx)
      have hTl := HO.out x (List.mem_of_getElem? hx)
      obtain ⟨c0, c1, c2⟩ := hc k x hx
      obtain ⟨F, C, T⟩ := x
      simp only [oF, oC, oT, txt] at c0 c1 c2 hTl
      obtain ⟨S, hS⟩ : ∃ S : ByteArray, ⟨T.toArray⟩ = S := ⟨_, rfl⟩
      rw [hS] at c2
      have hSd : S.data.toList = T := by rw [← hS]
      have hSs : S.size = T.length := by rw [Lib.size_eq, hSd]
      have HSd := Lib.hid hSd
      have HBb := Lib.hid (HB.out.alloc HB.out.size (.cells #[.int .i64 F, .int .i64 C, .string S] 46))
      have HRb : Hid ((wr.alloc (.cells #[.int .i64 F, .int .i64 C, .string S] 46)).heap[wr.heap.size]? = some (.cells #[.int .i64 F, .int .i64 C, .string S] 46 (0, 0))) := Lib.hid (heap_alloc_new wr _)
      have hEq : (S.toList == ([] : List UInt8)) = decide (T = []) := by rw [nil_eq, hSd]
      have hEm : S.toList.isEmpty = decide (T = []) := by rw [Lib.toList_data, hSd]; cases T <;> rfl
      obtain ⟨os, hos⟩ : ∃ os, out.data.toList.length = os := ⟨_, rfl⟩
      have hosz : out.size = os := by rw [Lib.size_eq, hos]
      clear hc hx hlt hS
      by_cases hC : 0 < C
      · by_cases hT : T = []
        · rw [decide_eq_true hT] at hEq hEm
          by_cases hF : 0 ≤ F
          · by_cases hFn : F < bn
            · have hw : -9223372036854775808 ≤ (bn : Int) - F := by omega
              by_cases hCn : C ≤ (bn : Int) - F
              · obtain ⟨f, rfl⟩ : ∃ f : Nat, F = f := ⟨F.toNat, by omega⟩
                obtain ⟨d, rfl⟩ : ∃ d : Nat, C = d := ⟨C.toNat, by omega⟩
                have hfd : f + d ≤ bn := by omega
                have HT2 : Hid (textL s.data.toList sz ((f : Int), (d : Int), T) = some ((s.data.toList.drop (f * sz)).take (d * sz))) := Lib.hid (textL_copy (by omega) hT (by omega) (by rw [← HBn.out]; omega))
                have HTd : Hid (∀ q, ((s.data.toList.drop (f * sz)).take q).length ≤ 1048576) := Lib.hid (fun q => by
                  rw [List.length_take, List.length_drop, ← size_data]
                  omega)
                have HOs := Lib.hid hos
                clear hTl hSd hSs hos
                repeat (first | go_skip | go_guarded | go_step | go_upon)
                obtain ⟨y0, y1, y2, -⟩ := row3 HRb.out
                clear c0 c1 c2
                generalize wr.alloc (.cells #[.int .i64 (f : Int), .int .i64 (d : Int), .string S] 46) = wq at HBb HRb y0 y1 y2 ⊢
                have HLq := Lib.hid (HLB.out.below HBb.out)
                go_loopw [9, 12] (fun s9 s12 wi => ∃ (j : Nat) (o2 : ByteArray), s12 = .int .i64 j ∧ s9 = .string o2 ∧ j ≤ d ∧ o2.data.toList = out.data.toList ++ (s.data.toList.drop (f * sz)).take (j * sz) ∧ wi = wq) (fun _ s12 _ => d - (Go.RowKit.intOf s12).toNat)
                case atStart => exact ⟨0, out, rfl, rfl, Nat.zero_le _, by simp, rfl⟩
                case round =>
                  obtain ⟨j, o2, rfl, rfl, hj, ho2, rfl⟩ := hrel
                  have HO2 := Lib.hid ho2
                  have ho2s : o2.size ≤ 2097152 := by
                    rw [Lib.size_eq, ho2, List.length_append, HOs.out]
                    have := HTd.out (j * sz)
                    omega
                  by_cases hjd : j < d
                  · have hjz : (j : Int) < d := by omega
                    obtain ⟨fj, hfj⟩ : ∃ fj, f + j = fj := ⟨_, rfl⟩
                    have hfz : (f : Int) + j = fj := by omega
                    have hfb : fj < bn := by omega
                    have hfbz : (fj : Int) < bn := by omega
                    have hp1 := part_step s f j sz
                    rw [hfj] at hp1
                    obtain ⟨X, hX⟩ : ∃ X, s.extract (fj * sz) (min ((fj + 1) * sz) s.size) = X := ⟨_, rfl⟩
                    have hbx := HBa.out fj hfb
                    rw [hX] at hp1 hbx
                    obtain ⟨g2, q2, rfl, hg2, hc2⟩ := HLq.out (by rw [HBL.out]; omega)
                    have e2 := hc2 fj X hbx
                    have HP1 := Lib.hid hp1
                    have hXs : X.size ≤ 1048576 := by
                      have := HTd.out ((j + 1) * sz)
                      rw [hp1, List.length_append, ← Lib.size_eq X] at this
                      omega
                    have hsum : (o2.size : Int) + X.size ≤ 9223372036854775807 := by omega
                    clear hc2 hbx hp1 hX hfj hjd ho2 hfb
                    repeat (first | go_skip | go_guarded | go_step | go_upon)
                    exact ⟨⟨j + 1, o2 ++ X, by go_num, rfl, by omega, by rw [cat_data2, HO2.out, HP1.out, List.append_assoc], trivial⟩, by simp [Go.RowKit.intOf]; omega⟩
                  · have hjz : ¬ (j : Int) < d := by omega
                    obtain rfl : j = d := by omega
                    clear hjd
                    have hol := congrArg List.length ho2
                    rw [← Lib.size_eq, List.length_append, HOs.out] at hol
                    obtain ⟨q, hq⟩ : ∃ q, ((s.data.toList.drop (f * sz)).take (j * sz)).length = q := ⟨_, rfl⟩
                    rw [hq] at hol
                    by_cases hov : 65536 < os + q
                    · have HF : Hid (R = ([], 32)) := Lib.hid (by rw [← HR.out, HS.out, HT2.out]; simp only; rw [if_pos (by rw [HOs.out, hq]; exact hov)])
                      have hgt : (65536 : Int) < o2.size := by omega
                      clear hol hq hov ho2
                      repeat (first | go_skip | go_guarded | go_step | go_upon)
                      go_ret2
                      exact ⟨by rw [HF.out]; rfl, HB1.out.trans (HBb.out.mono HB1.out.size)⟩
                    · have HF : Hid (applyL s.data.toList sz o2.data.toList (ops.drop (k + 1)) = R) := Lib.hid (by rw [ho2, ← HR.out, HS.out, HT2.out]; simp only; rw [if_neg (by rw [HOs.out, hq]; exact hov)])
                      have HO3 : Hid (o2.size ≤ 65536) := Lib.hid (by omega)
                      have hgt : ¬ (65536 : Int) < o2.size := by omega
                      clear hol hq hov ho2
                      repeat (first | go_skip | go_guarded | go_step | go_upon)
                      exact ⟨⟨k + 1, o2, by go_num, rfl, by rw [HN.out]; omega, HO3.out, HF.out, HBb.out⟩, by simp [Go.RowKit.intOf]; omega⟩
              · have HF : Hid (R = ([], 140)) := Lib.hid (by rw [← HR.out, HS.out, textL_no (by unfold okT; simp; omega) (by unfold okC; rw [← HBn.out]; simp; omega)])
                have hq0 : (C == 0) = false := by simp; omega
                clear hTl hSd hSs hos
                repeat (first | go_skip | go_guarded | go_step | go_upon)
                go_ret2
                exact ⟨by rw [HF.out]; rfl, HB1.out.trans (HBb.out.mono HB1.out.size)⟩
            · have HF : Hid (R = ([], 140)) := Lib.hid (by rw [← HR.out, HS.out, textL_no (by unfold okT; simp; omega) (by unfold okC; rw [← HBn.out]; simp; omega)])
              have hq0 : (C == 0) = false := by simp; omega
              clear hTl hSd hSs hos
              repeat (first | go_skip | go_guarded | go_step | go_upon)
              go_ret2
              exact ⟨by rw [HF.out]; rfl, HB1.out.trans (HBb.out.mono HB1.out.size)⟩
          · have HF : Hid (R = ([], 140)) := Lib.hid (by rw [← HR.out, HS.out, textL_no (by unfold okT; simp; omega) (by unfold okC; rw [← HBn.out]; simp; omega)])
            have hq0 : (C == 0) = false := by simp; omega
            clear hTl hSd hSs hos
            repeat (first | go_skip | go_guarded | go_step | go_upon)
            go_ret2
            exact ⟨by rw [HF.out]; rfl, HB1.out.trans (HBb.out.mono HB1.out.size)⟩
        · rw [decide_eq_false hT] at hEq hEm
          have HF : Hid (R = ([], 140)) := Lib.hid (by rw [← HR.out, HS.out, textL_no (by unfold okT; simp; omega) (by unfold okC; simp [hT])])
          have hq0 : (C == 0) = false := by simp; omega
          clear hTl hSd hSs hos
          repeat (first | go_skip | go_guarded | go_step | go_upon)
          go_ret2
          exact ⟨by rw [HF.out]; rfl, HB1.out.trans (HBb.out.mono HB1.out.size)⟩
      · by_cases hC0 : C = 0
        · have hq0 : (C == 0) = true := by simp [hC0]
          by_cases hF0 : F = 0
          · have hq1 : (F == 0) = true := by simp [hF0]
            by_cases hT : T = []
            · rw [decide_eq_true hT] at hEq hEm
              have HF : Hid (R = ([], 140)) := Lib.hid (by rw [← HR.out, HS.out, textL_no (by unfold okT; simp [hT]) (by unfold okC; simp; omega)])
              clear hC0 hF0
              skip
              clear hTl hSd hSs hos
              repeat (first | go_skip | go_guarded | go_step | go_upon)
              go_ret2
              exact ⟨by rw [HF.out]; rfl, HB1.out.trans (HBb.out.mono HB1.out.size)⟩
            · rw [decide_eq_false hT] at hEq hEm
              have HT2 : Hid (textL s.data.toList sz (F, C, T) = some T) := Lib.hid (by unfold textL okT; simp only; rw [if_pos (by simp [hC0, hF0, hT])])
              clear hC0 hF0
              have hcat : (out ++ S).data.toList = out.data.toList ++ T := by rw [cat_data2, hSd]
              have hcs : (out ++ S).size = os + T.length := by rw [ByteArray.size_append, hosz, hSs]
              by_cases hov : 65536 < os + T.length
              · have HF : Hid (R = ([], 32)) := Lib.hid (by rw [← HR.out, HS.out, HT2.out]; simp only; rw [if_pos (by rw [hos]; exact hov)])
                have hgt : (65536 : Int) < (out ++ S).size := by omega
                have hsum : (out.size : Int) + S.size ≤ 9223372036854775807 := by omega
                have hgt2 : (65536 : Int) < (out.size : Int) + S.size := by omega
                clear hTl hSd hSs hos hov hcat hcs
                repeat (first | go_skip | go_guarded | go_step | go_upon)
                go_ret2
                exact ⟨by rw [HF.out]; rfl, HB1.out.trans (HBb.out.mono HB1.out.size)⟩
              · have HF : Hid (applyL s.data.toList sz (out ++ S).data.toList (ops.drop (k + 1)) = R) := Lib.hid (by rw [hcat, ← HR.out, HS.out, HT2.out]; simp only; rw [if_neg (by rw [hos]; exact hov)])
                have HO2 : Hid ((out ++ S).size ≤ 65536) := Lib.hid (by omega)
                have hgt : ¬ (65536 : Int) < (out ++ S).size := by omega
                have hsum : (out.size : Int) + S.size ≤ 9223372036854775807 := by omega
                have hgt2 : ¬ (65536 : Int) < (out.size : Int) + S.size := by omega
                clear hTl hSd hSs hos hov hcat hcs
                repeat (first | go_skip | go_guarded | go_step | go_upon)
                exact ⟨⟨k + 1, out ++ S, by go_num, rfl, by rw [HN.out]; omega, HO2.out, HF.out, HBb.out⟩, by simp [Go.RowKit.intOf]; omega⟩
          · have hq1 : (F == 0) = false := by simp [hF0]
            have HF : Hid (R = ([], 140)) := Lib.hid (by rw [← HR.out, HS.out, textL_no (by unfold okT; simp [hF0]) (by unfold okC; simp; omega)])
            clear hC0
            skip
            clear hTl hSd hSs hos
            repeat (first | go_skip | go_guarded | go_step | go_upon)
            go_ret2
            exact ⟨by rw [HF.out]; rfl, HB1.out.trans (HBb.out.mono HB1.out.size)⟩
        · have hq0 : (C == 0) = false := by simp [hC0]
          have HF : Hid (R = ([], 140)) := Lib.hid (by rw [← HR.out, HS.out, textL_no (by unfold okT; simp [hC0]) (by unfold okC; simp; omega)])
          skip
          clear hTl hSd hSs hos
          repeat (first | go_skip | go_guarded | go_step | go_upon)
          go_ret2
          exact ⟨by rw [HF.out]; rfl, HB1.out.trans (HBb.out.mono HB1.out.size)⟩
    · have hkz : ¬ (k : Int) < n := by omega
      obtain rfl : k = n := by omega
      have HF : Hid (R = (out.data.toList, 0)) := Lib.hid (by
        rw [← HR.out, List.drop_eq_nil_of_le (by rw [HN.out]; exact Nat.le_refl _)]
        rfl)
      have HX := Lib.hid (Lib.mk_data out)
      clear hlt
      repeat (first | go_skip | go_guarded | go_step | go_upon)
      go_ret2
      exact ⟨by rw [HF.out]; simp only []; rw [HX.out]; rfl, HB1.out.trans (HB.out.mono HB1.out.size)⟩
end DM
end Go.Proofs.YtmpmmebmhffaeaaDoor
