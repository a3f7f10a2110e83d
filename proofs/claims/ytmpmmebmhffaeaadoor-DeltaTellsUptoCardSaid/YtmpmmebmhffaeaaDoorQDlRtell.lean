/- Layer 14: the document's Sum of a text, its match of a text, its Sign. -/
import Derived.Test.YtmpmmebmhffaeaaDoorQDlRapp
set_option linter.all false
set_option maxRecDepth 100000
set_option maxHeartbeats 25600000
namespace Go.Proofs.YtmpmmebmhffaeaaDoor
open Go.RowKit Go.Lib Go.BigFrame Go.Maps
namespace DM
open OM DL HP HS

set_option maxRecDepth 100000 in
set_option maxHeartbeats 1600000 in
theorem rsum1_any (s : ByteArray) (w : World) (hs : s.size ≤ 400) :
    Calls Tryd.prog 41 #[.string s] w fun r w' => r = .returned (.string ⟨(shaL s.data.toList).toArray⟩) ∧ Below w.heap.size w w' := by
  have CT := Lib.hid (HX.rtable_any w)
  have CS0 := Lib.hid (fun vh vk w1 hh hk => HX.rsum_any s vh vk w1 hs hh hk)
  obtain ⟨H, hH⟩ : ∃ H : ByteArray, ⟨(shaL s.data.toList).toArray⟩ = H := ⟨_, rfl⟩
  rw [hH] at CS0 ⊢
  clear hH
  go_enter Tryd.func41, Tryd.ntmps41
  repeat (first | go_skip | go_guarded | go_step | go_upon)
  refine CT.out.mono ?_
  rintro r w1 ⟨vh, vk, rfl, hh, hk, hb⟩
  simp only []
  have CS := Lib.hid (CS0.out vh vk w1 hh hk)
  have HB := Lib.hid hb
  clear hh hk hb
  repeat (first | go_skip | go_guarded | go_step | go_upon)
  refine CS.out.mono ?_
  rintro r w2 ⟨rfl, hb2⟩
  simp only []
  repeat (first | go_skip | go_guarded | go_step | go_upon)
  go_ret
  exact ⟨rfl, HB.out.trans (hb2.mono HB.out.size)⟩
/-- So far no block matches; the fingerprint is known or not. -/
def McInv (bs : List Bk) (t : Bk) (H : ByteArray) (w : World) (s6 s7 : Value) (wr : World) : Prop :=
  ∃ (k : Nat) (S : ByteArray), s7 = .int .i64 k ∧ s6 = .string S ∧ k ≤ bs.length ∧ (S = ⟨#[]⟩ ∨ S = H) ∧ (∀ j, j < k → bs[j]? ≠ some t) ∧ Below w.heap.size w wr
set_option maxRecDepth 100000 in
set_option maxHeartbeats 6400000 in
theorem rmatch_any (bs : List Bk) (ao : Option Addr) (c : Nat) (s : ByteArray) (w : World) (hl : LayB w ao bs) (hn : bs.length ≤ 4194304) (hs : s.size ≤ 400) :
    Calls Tryd.prog 25 #[.slice ao bs.length c, .string s] w fun r w' => r = .returned (.int .i64 (numB (findB bs (tellB s.data.toList)))) ∧ Below w.heap.size w w' := by
  have HT : Hid (tellB s.data.toList = (weakL s.data.toList, shaL s.data.toList, (s.size : Int))) := Lib.hid (by unfold tellB; rw [size_data])
  rw [HT.out]
  have CW : Hid (∀ W, Calls Tryd.prog 21 #[.string s] W fun r w' => r = .returned (.int .u32 (weakL s.data.toList : Nat)) ∧ W = w') := Lib.hid (fun W => HR.rweak_any s W (by unfold maxLen; omega))
  have CS : Hid (∀ W, Calls Tryd.prog 41 #[.string s] W fun r w' => r = .returned (.string ⟨(shaL s.data.toList).toArray⟩) ∧ Below W.heap.size W w') := Lib.hid (fun W => rsum1_any s W hs)
  obtain ⟨kw, hkw⟩ : ∃ kw, weakL s.data.toList = kw := ⟨_, rfl⟩
  obtain ⟨hh, hhh⟩ : ∃ hh, shaL s.data.toList = hh := ⟨_, rfl⟩
  have hlen : hh.length = 32 := by rw [← hhh, sha_len]
  rw [hkw] at CW ⊢
  rw [hhh] at CS ⊢
  obtain ⟨H, hH⟩ : ∃ H : ByteArray, ⟨hh.toArray⟩ = H := ⟨_, rfl⟩
  rw [hH] at CS
  have HHd : Hid (H.data.toList = hh) := Lib.hid (by rw [← hH])
  have hHe : H.toList.isEmpty = false := by
    rw [Lib.toList_data, HHd.out]
    cases hh with
    | nil => simp at hlen
    | cons _ _ => rfl
  have hHe2 : (H.toList == ([] : List UInt8)) = false := by
    rw [nil_eq, HHd.out]
    cases hh with
    | nil => simp at hlen
    | cons _ _ => rfl
  obtain ⟨n, hnn⟩ : ∃ n, bs.length = n := ⟨_, rfl⟩
  have HN := Lib.hid hnn
  have HL := Lib.hid hl
  obtain ⟨R, hR⟩ : ∃ R, numB (findB bs (kw, hh, (s.size : Int))) = R := ⟨_, rfl⟩
  have HR := Lib.hid hR
  rw [hR]
  rw [hnn] at hn ⊢
  have hnz : (n : Int) ≤ 4194304 := by omega
  clear hl hnn hR hkw hhh hlen hH
  go_enter Tryd.func25, Tryd.ntmps25
  repeat (first | go_skip | go_guarded | go_step | go_upon)
  refine (CW.out _).mono ?_
  rintro r w1 ⟨rfl, rfl⟩
  simp only []
  repeat (first | go_skip | go_guarded | go_step | go_upon)
  go_loopw [6, 7] (fun s6 s7 wr => McInv bs (kw, hh, (s.size : Int)) H w s6 s7 wr) (fun _ s7 _ => n - (Go.RowKit.intOf s7).toNat)
  case atStart => exact ⟨0, ⟨#[]⟩, rfl, rfl, Nat.zero_le _, .inl rfl, (fun j hj => absurd hj (Nat.not_lt_zero j)), Below.refl _ _⟩
  case round =>
    obtain ⟨k, S, rfl, rfl, hk, hS, hno, hb⟩ := hrel
    rw [HN.out] at hk
    have HNo := Lib.hid hno
    have HB := Lib.hid hb
    clear hno hb
    by_cases hlt : k < n
    · have hkz : (k : Int) < n := by omega
      obtain ⟨g, o, rfl, hg, hc⟩ := (HL.out.below HB.out) (by rw [HN.out]; omega)
      obtain ⟨b, hbk⟩ : ∃ b, bs[k]? = some b := ⟨bs[k]'(by rw [HN.out]; exact hlt), List.getElem?_eq_getElem _⟩
      have HBK := Lib.hid hbk
      obtain ⟨c0, c1, c2⟩ := hc k b hbk
      obtain ⟨x, y, z⟩ := b
      simp only [bW, bS, bN, txt] at c0 c1 c2
      obtain ⟨Y, hY⟩ : ∃ Y : ByteArray, ⟨y.toArray⟩ = Y := ⟨_, rfl⟩
      rw [hY] at c1
      have hYd : Y.data.toList = y := by rw [← hY]
      have HStep : Hid ((x, y, z) ≠ (kw, hh, (s.size : Int)) → ∀ j, j < k + 1 → bs[j]? ≠ some (kw, hh, (s.size : Int))) := Lib.hid (fun hne j hj e => by
        rcases (by omega : j < k ∨ j = k) with h | h
        · exact HNo.out j h e
        · rw [h, HBK.out] at e
          exact hne (Option.some.inj e))
      clear hc hbk hlt hY
      by_cases hz : z = s.size
      · have hq : (z != (s.size : Int)) = false := by simp [hz]
        by_cases hx : x = kw
        · have hq2 : ((x : Int) != (kw : Int)) = false := by simp [hx]
          have hyq : (Y.toList == H.toList) = decide (y = hh) := by
            rw [str_eqB]
            exact decide_eq_decide.2 ⟨(fun e => by rw [← HHd.out, ← e, hYd]), (fun e => by rw [← Lib.mk_data Y, ← Lib.mk_data H, hYd, HHd.out, e])⟩
          by_cases hy : y = hh
          · have HF : Hid (R = (k : Int)) := Lib.hid (by
              rw [← HR.out, findB_first (i := k) (by rw [HBK.out, hx, hy, hz]) HNo.out]
              rfl)
            rw [decide_eq_true hy] at hyq
            rcases hS with rfl | rfl
            · clear hz hx hy hYd
              repeat (first | go_skip | go_guarded | go_step | go_upon)
              refine (CS.out _).mono ?_
              rintro r w2 ⟨rfl, hb2⟩
              simp only []
              have HB2 := Lib.hid (HB.out.trans (hb2.mono HB.out.size))
              have e1 := (hb2.cell (p := ⟨g, o + k * 3 + 1, none⟩) hg).trans c1
              clear hb2
              repeat (first | go_skip | go_guarded | go_step | go_upon)
              go_ret
              exact ⟨by rw [HF.out]; rfl, HB2.out⟩
            · clear hz hx hy hYd
              repeat (first | go_skip | go_guarded | go_step | go_upon)
              go_ret
              exact ⟨by rw [HF.out]; rfl, HB.out⟩
          · have hne : (x, y, z) ≠ (kw, hh, (s.size : Int)) := fun e => hy (by injection e with _ e; injection e with e _)
            have HS2 := Lib.hid (HStep.out hne)
            rw [decide_eq_false hy] at hyq
            rcases hS with rfl | rfl
            · clear hz hx hy hne hYd
              repeat (first | go_skip | go_guarded | go_step | go_upon)
              refine (CS.out _).mono ?_
              rintro r w2 ⟨rfl, hb2⟩
              simp only []
              have HB2 := Lib.hid (HB.out.trans (hb2.mono HB.out.size))
              have e1 := (hb2.cell (p := ⟨g, o + k * 3 + 1, none⟩) hg).trans c1
              clear hb2
              repeat (first | go_skip | go_guarded | go_step | go_upon)
              exact ⟨⟨k + 1, H, by go_num, rfl, by rw [HN.out]; omega, .inr rfl, HS2.out, HB2.out⟩, by simp [Go.RowKit.intOf]; omega⟩
            · clear hz hx hy hne hYd
              repeat (first | go_skip | go_guarded | go_step | go_upon)
              exact ⟨⟨k + 1, S, by go_num, rfl, by rw [HN.out]; omega, .inr rfl, HS2.out, HB.out⟩, by simp [Go.RowKit.intOf]; omega⟩
        · have hq2 : ((x : Int) != (kw : Int)) = true := by simp; omega
          have HS2 := Lib.hid (HStep.out (fun e => hx (by injection e)))
          have HSS := Lib.hid hS
          clear hz hx hS hYd
          repeat (first | go_skip | go_guarded | go_step | go_upon)
          exact ⟨⟨k + 1, S, by go_num, rfl, by rw [HN.out]; omega, HSS.out, HS2.out, HB.out⟩, by simp [Go.RowKit.intOf]; omega⟩
      · have hq : (z != (s.size : Int)) = true := by simp [hz]
        have HS2 := Lib.hid (HStep.out (fun e => hz (by injection e with _ e; injection e)))
        have HSS := Lib.hid hS
        clear hz hS hYd
        repeat (first | go_skip | go_guarded | go_step | go_upon)
        exact ⟨⟨k + 1, S, by go_num, rfl, by rw [HN.out]; omega, HSS.out, HS2.out, HB.out⟩, by simp [Go.RowKit.intOf]; omega⟩
    · have hkz : ¬ (k : Int) < n := by omega
      obtain rfl : k = n := by omega
      have HF : Hid (R = -1) := Lib.hid (by
        rw [← HR.out, findB_not (fun j e => by
          by_cases hj : j < k
          · exact HNo.out j hj e
          · have := (List.getElem?_eq_some_iff.1 e).1
            rw [HN.out] at this
            omega)]
        rfl)
      clear hlt hS
      repeat (first | go_skip | go_guarded | go_step | go_upon)
      go_ret
      exact ⟨by rw [HF.out]; rfl, HB.out⟩
theorem sign_blocks (s : ByteArray) (sz : Nat) : signL s.data.toList sz = (blocksB s sz).map fun b => tellB b.data.toList := by
  unfold signL blocksB
  rw [List.map_map, ← size_data]
  refine List.map_congr_left fun i _ => ?_
  show tellB (blockAt s.data.toList sz i) = tellB (s.extract (i * sz) (min ((i + 1) * sz) s.size)).data.toList
  rw [show (i + 1) * sz = i * sz + sz by rw [Nat.add_mul, Nat.one_mul], drop_ext]
  rfl
def RsInv (w : World) (L : List Bk) (s7 s9 : Value) (wr : World) : Prop :=
  ∃ (k : Nat) (a : Option Addr) (c : Nat), s9 = .int .i64 k ∧ s7 = .slice a k c ∧ k ≤ L.length ∧ wr.ownsRow w.heap.size 33 3 (.slice a k c) k (blkC (L.take k)) ∧ Below w.heap.size w wr
theorem lay_shas {w : World} {B : Nat} {v : Value} {ls : List ByteArray} (h : w.ownsRow B 9 1 v ls.length (ls.map HX.shaS)) : ∃ ao c, v = .slice ao ls.length c ∧ (0 < ls.length → ∃ g, ao = some ⟨g, 0, none⟩ ∧ g < w.heap.size ∧ ∀ (i : Nat) (x : ByteArray), ls[i]? = some x → w.cell? ⟨g, i, none⟩ = some (HX.shaS x)) := by
  obtain ⟨ao, c, rfl, hx⟩ := owns_view h
  refine ⟨ao, c, rfl, fun h0 => ?_⟩
  obtain ⟨g, rfl, hg, _, hc⟩ := hx h0
  refine ⟨g, rfl, hg, fun i x hi => ?_⟩
  have hkl := (List.getElem?_eq_some_iff.1 hi).1
  rw [hc i (by omega), List.getElem?_map, hi]
  rfl
set_option maxRecDepth 100000 in
set_option maxHeartbeats 6400000 in
theorem rsign_any (s : ByteArray) (sz : Nat) (w : World) (h1 : 1 ≤ sz) (h2 : sz ≤ 65536) (hs : s.size ≤ 300) :
    Calls Tryd.prog 8 #[.string s, .int .i64 sz] w fun r w' => ∃ v, r = .returned (.tuple #[v, .int .i64 0]) ∧ w'.ownsRow w.heap.size 33 3 v (signL s.data.toList sz).length (blkC (signL s.data.toList sz)) ∧ Below w.heap.size w w' := by
  have CB := Lib.hid (rblocks_any s sz w h1 h2 (by omega))
  have hbl := blocksB_len s sz
  have hcn : cnt s.size sz ≤ 300 := Nat.le_trans (cnt_le h1) hs
  have hsz : ∀ b ∈ blocksB s sz, b.size ≤ 400 := fun b hb => by
    unfold blocksB at hb
    obtain ⟨i, _, rfl⟩ := List.mem_map.1 hb
    rw [Lib.size_eq, take_of3, List.length_take, List.length_drop, ← size_data]
    omega
  have HSB := Lib.hid (sign_blocks s sz)
  rw [HSB.out]
  obtain ⟨ls, hls⟩ : ∃ ls, blocksB s sz = ls := ⟨_, rfl⟩
  obtain ⟨n, hn⟩ : ∃ n, cnt s.size sz = n := ⟨_, rfl⟩
  rw [hls, hn] at CB hbl
  rw [hls] at hsz ⊢
  rw [hn] at hcn
  have HLs := Lib.hid hbl
  have HSz := Lib.hid hsz
  have HML : Hid ((ls.map fun b => tellB b.data.toList).length = n) := Lib.hid (by rw [List.length_map]; exact hbl)
  obtain ⟨L, hL⟩ : ∃ L, (ls.map fun b => tellB b.data.toList) = L := ⟨_, rfl⟩
  have HLA : Hid (∀ (i : Nat) (x : ByteArray), ls[i]? = some x → L[i]? = some (tellB x.data.toList)) := Lib.hid (fun i x hx => by rw [← hL, List.getElem?_map, hx]; rfl)
  rw [hL] at HML ⊢
  have CSS : Hid (∀ W ao ca, HX.LayT W ao ls → Calls Tryd.prog 20 #[.slice ao ls.length ca] W fun r w' => ∃ v, r = .returned v ∧ w'.ownsRow W.heap.size 9 1 v ls.length (ls.map HX.shaS) ∧ Below W.heap.size W w') := Lib.hid (fun W ao ca h => HX.rsums_any ls ao ca W h (by omega) hsz)
  rw [hbl] at CSS
  have hz1 : ¬ (sz : Int) < 1 := by omega
  have hz2 : ¬ (65536 : Int) < sz := by omega
  clear hbl hsz hls hn hL h1
  go_enter Tryd.func8, Tryd.ntmps8
  repeat (first | go_skip | go_guarded | go_step | go_upon)
  refine CB.out.mono ?_
  rintro r w1 ⟨v, rfl, ho1, hb1⟩
  rw [← HLs.out] at ho1
  obtain ⟨al, cl, rfl, hl1⟩ := strs_own ho1
  rw [HLs.out]
  simp only []
  have HL1 := Lib.hid hl1
  have HB1 := Lib.hid hb1
  clear ho1 hl1 hb1 CB
  by_cases hn0 : n = 0
  · subst hn0
    have HL0 : Hid (L = []) := Lib.hid (List.eq_nil_of_length_eq_zero HML.out)
    repeat (first | go_skip | go_guarded | go_step | go_upon)
    go_ret2
    refine ⟨_, rfl, ?_, HB1.out⟩
    rw [HL0.out]
    exact World.ownsRow_nil _ _ _ _
  · have hq : ((n : Int) == 0) = false := by simp; omega
    repeat (first | go_skip | go_guarded | go_step | go_upon)
    refine (CSS.out w1 al cl HL1.out).mono ?_
    rintro r w2 ⟨v, rfl, ho2, hb2⟩
    rw [← HLs.out] at ho2
    obtain ⟨ash, csh, rfl, hl2⟩ := lay_shas ho2
    rw [HLs.out]
    simp only []
    have HL2 := Lib.hid hl2
    have HL12 := Lib.hid (HL1.out.below hb2)
    have HB2 := Lib.hid (HB1.out.trans (hb2.mono HB1.out.size))
    clear ho2 hl2 hb2 CSS
    repeat (first | go_skip | go_guarded | go_step | go_upon)
    go_loopw [7, 9] (fun s7 s9 wr => RsInv w2 L s7 s9 wr) (fun _ s9 _ => n - (Go.RowKit.intOf s9).toNat)
    case atStart => exact ⟨0, none, 0, rfl, rfl, Nat.zero_le _, World.ownsRow_nil _ _ _ _, Below.refl _ _⟩
    case round =>
      obtain ⟨k, a, c, rfl, rfl, hk, hown, hb⟩ := hrel
      rw [HML.out] at hk
      have HO := Lib.hid hown
      have HB := Lib.hid hb
      clear hown hb
      by_cases hlt : k < n
      · have hkz : (k : Int) < n := by omega
        obtain ⟨x, hx⟩ : ∃ x, ls[k]? = some x := ⟨ls[k]'(by rw [HLs.out]; exact hlt), List.getElem?_eq_getElem _⟩
        have HAk := Lib.hid (HLA.out k x hx)
        have HX := Lib.hid hx
        have hxs := HSz.out x (List.mem_of_getElem? hx)
        obtain ⟨g1, o1, rfl, hg1, hc1⟩ := HL12.out (by rw [HLs.out]; omega)
        obtain ⟨g2, rfl, hg2, hc2⟩ := HL2.out (by rw [HLs.out]; omega)
        have CW : Hid (∀ W, Calls Tryd.prog 21 #[.string x] W fun r w' => r = .returned (.int .u32 (weakL x.data.toList : Nat)) ∧ W = w') := Lib.hid (fun W => HR.rweak_any x W (by unfold maxLen; omega))
        have HC : Hid (∀ W, Below w2.heap.size w2 W → W.cell? ⟨g1, o1 + k, none⟩ = some (.string x) ∧ W.cell? ⟨g2, k, none⟩ = some (.string ⟨(shaL x.data.toList).toArray⟩)) := Lib.hid (fun W hW => ⟨(hW.cell (p := ⟨g1, o1 + k, none⟩) hg1).trans (hc1 k x hx), (hW.cell (p := ⟨g2, k, none⟩) hg2).trans (hc2 k x hx)⟩)
        have HTx : Hid (tellB x.data.toList = (weakL x.data.toList, shaL x.data.toList, (x.size : Int))) := Lib.hid (by unfold tellB; rw [size_data])
        obtain ⟨kw, hkw⟩ : ∃ kw, weakL x.data.toList = kw := ⟨_, rfl⟩
        obtain ⟨Y, hY⟩ : ∃ Y : ByteArray, ⟨(shaL x.data.toList).toArray⟩ = Y := ⟨_, rfl⟩
        rw [hkw] at CW HTx
        rw [hY] at HC
        have HY := Lib.hid hY
        clear hc1 hc2 hx hlt hkw hY
        repeat (first | go_skip | go_guarded | go_step | go_upon)
        refine wp_region_noPanic ?_
        with_reducible refine QT.region_mix (S := fun W' => Below w2.heap.size w2 W') [(true, 0), (true, 1), (true, 2), (true, 3), (true, 4), (true, 6), (true, 7), (true, 8), (true, 9), (true, 10), (true, 11), (true, 12), (true, 13), (true, 14), (false, 5), (true, 15), (false, 16), (false, 17)] 18 (by kernel_rfl) (by kernel_rfl) ?_ ?_ ?_
        · exact fun _ _ _ _ _ h => h
        · exact HB.out.drew
        intro _
        simp only [QT.pickM, List.filterMap_cons, List.filterMap_nil, List.getElem?_cons_succ, List.getElem?_cons_zero, Option.map_some, List.drop_succ_cons, List.drop_zero]
        iterate 14 (refine QT.wpMix_take _ (by rfl) (by intro w' hSw; obtain ⟨c0, c1⟩ := HC.out w' hSw; go_simp; first | done | rfl) ?_; try simp only [Act.put, List.setIfInBounds_toArray, List.set_cons_zero, List.set_cons_succ])
        intro K' hK
        rw [if_pos (by rfl)]
        go_simp
        refine (CW.out _).mono ?_
        rintro r w3 ⟨rfl, rfl⟩
        simp only []
        have HB3 : Hid (Below w2.heap.size w2 wr.drew) := Lib.hid HB.out.drew
        have HO3 : Hid (wr.drew.ownsRow w2.heap.size 33 3 (.slice a k c) k (blkC (L.take k))) := Lib.hid (owns_below HO.out (Below.refl _ _).drew)
        refine hK.out _ _ HB3.out ?_
        clear hK K'
        try simp only [Act.put, List.setIfInBounds_toArray, List.set_cons_zero, List.set_cons_succ]
        generalize wr.drew = w3 at HB3 HO3 ⊢
        refine QT.wpMix_take _ (by rfl) (by intro w' hSw; go_simp; first | done | rfl) ?_
        try simp only [Act.put, List.setIfInBounds_toArray, List.set_cons_zero, List.set_cons_succ]
        intro K' hK
        rw [if_pos (by rfl)]
        go_simp
        refine hK.out _ _ (HB3.out.alloc HB3.out.size _) ?_
        clear hK K'
        try simp only [Act.put, List.setIfInBounds_toArray, List.set_cons_zero, List.set_cons_succ]
        obtain ⟨ap, cp, w4, hrun, hown, hout⟩ := blk_step (x := .int .u32 kw) (y := .string Y) (z := .int .i64 x.size) HO3.out (by omega) HB3.out.size (fun v hv => by simp at hv; rcases hv with rfl | rfl | rfl <;> rfl)
        have HO4 := Lib.hid hown
        have HB4 := Lib.hid (own_out HO3.out HB3.out (Nat.le_refl _) (Nat.le_refl _) hout)
        clear hown hout
        intro K' hK
        refine step_app_eq rfl (.tmp 30) (.tmp 46) 22 22 rfl (.slice a k c) (.slice (some ⟨w3.heap.size, 0, none⟩) 1 1) rfl rfl hrun ?_
        refine hK.out _ _ HB4.out ?_
        clear hK K' hrun
        try simp only [Act.put, List.setIfInBounds_toArray, List.set_cons_zero, List.set_cons_succ]
        refine QT.wpMix_nil ?_
        repeat (first | go_skip | go_guarded | go_step | go_upon)
        refine NoPanic.normal ?_
        repeat (first | go_skip | go_guarded | go_step | go_upon)
        exact ⟨⟨k + 1, ap, cp, by go_num, rfl, by rw [HML.out]; omega, by
          rw [List.take_add_one, HAk.out, Option.toList_some, HTx.out, blk_snoc _ _ _ _ HY.out]
          exact HO4.out, HB4.out⟩, by simp [Go.RowKit.intOf]; omega⟩
      · have hkz : ¬ (k : Int) < n := by omega
        obtain rfl : k = n := by omega
        clear hlt
        repeat (first | go_skip | go_guarded | go_step | go_upon)
        go_ret2
        refine ⟨_, rfl, ?_, HB2.out.trans (HB.out.mono HB2.out.size)⟩
        have := owns_base HO.out w.heap.size HB2.out.size
        rw [List.take_of_length_le (by rw [HML.out]; exact Nat.le_refl _)] at this
        rw [HML.out]
        exact this
set_option maxRecDepth 100000 in
theorem rsign_no (s : ByteArray) (z : Int) (w : World) (hz : ¬ (1 ≤ z ∧ z ≤ 65536)) :
    Calls Tryd.prog 8 #[.string s, .int .i64 z] w fun r w' => r = .returned (.tuple #[.slice none 0 0, .int .i64 2]) ∧ w = w' := by
  by_cases h1 : z < 1
  · go_enter Tryd.func8, Tryd.ntmps8
    repeat (first | go_skip | go_guarded | go_step | go_upon)
    go_ret2
    exact ⟨rfl, rfl⟩
  · have h2 : 65536 < z := by omega
    go_enter Tryd.func8, Tryd.ntmps8
    repeat (first | go_skip | go_guarded | go_step | go_upon)
    go_ret2
    exact ⟨rfl, rfl⟩
end DM
end Go.Proofs.YtmpmmebmhffaeaaDoor
