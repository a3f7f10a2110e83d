/- Layer 16: the walk of MuxWhole. -/
import Derived.Test.YtdkfoakmjeealaaQMxSt
import Derived.Deep.DeepCutAuto
import Derived.Deep.CutBlock
import Derived.Deep.LoopGhost
set_option linter.all false
set_option maxRecDepth 100000
set_option maxHeartbeats 25600000
namespace Go.Proofs.Ytdkfoakmjeealaa
open Go.RowKit Go.Lib Go.BigFrame
namespace MX
open OM FP

/-- How many texts are put. -/
def putN (ls : List (List UInt8)) : Nat := ((ls.take 10).takeWhile (fun t => decide (t.length ≤ 200))).length
theorem putN_le (ls : List (List UInt8)) : putN ls ≤ ls.length ∧ putN ls ≤ 10 := by
  unfold putN
  have h1 := (List.takeWhile_sublist (fun t : List UInt8 => decide (t.length ≤ 200)) (l := ls.take 10)).length_le
  rw [List.length_take] at h1
  omega
theorem tw_pre : ∀ (l : List (List UInt8)) (k : Nat) (t : List UInt8), k < (l.takeWhile (fun t => decide (t.length ≤ 200))).length → l[k]? = some t → t.length ≤ 200
  | [], k, t, h, _ => by simp at h
  | x :: l, k, t, h, hk => by
    rw [List.takeWhile_cons] at h
    split at h
    · rename_i hx
      match k with
      | 0 =>
        simp at hk
        subst hk
        simpa using hx
      | k + 1 =>
        rw [List.length_cons] at h
        rw [List.getElem?_cons_succ] at hk
        exact tw_pre l k t (by omega) hk
    · simp at h
theorem tw_end : ∀ (l : List (List UInt8)) (t : List UInt8), l[(l.takeWhile (fun t => decide (t.length ≤ 200))).length]? = some t → 200 < t.length
  | [], t, h => by simp at h
  | x :: l, t, h => by
    rw [List.takeWhile_cons] at h
    split at h
    · rw [List.length_cons, List.getElem?_cons_succ] at h
      exact tw_end l t h
    · rename_i hx
      simp at h
      subst h
      simp at hx
      omega
theorem put_small {ls : List (List UInt8)} {k : Nat} {t : List UInt8} (hk : k < putN ls) (ht : ls[k]? = some t) : t.length ≤ 200 := by
  have h10 := (putN_le ls).2
  exact tw_pre _ k t hk (by rw [List.getElem?_take_of_lt (by omega)]; exact ht)
theorem put_end {ls : List (List UInt8)} {t : List UInt8} (ht : ls[putN ls]? = some t) : putN ls = 10 ∨ 200 < t.length := by
  have h10 := (putN_le ls).2
  by_cases h : putN ls = 10
  · exact .inl h
  · refine .inr (tw_end (ls.take 10) t ?_)
    show (ls.take 10)[putN ls]? = some t
    rw [List.getElem?_take_of_lt (by omega)]
    exact ht
/-- The window, the size: from 1 to 100. -/
def sizeZ (z : Int) : Int := z.tmod 100 % 100 + 1
theorem size_ok (z : Int) : 1 ≤ sizeZ z ∧ sizeZ z ≤ 100 := by
  unfold sizeZ
  omega
set_option maxRecDepth 100000 in
set_option maxHeartbeats 12800000 in
theorem whole_any (ao : Option Addr) (cap : Nat) (ls : List (List UInt8)) (zw zs : Int) (ap : Option Addr) (capp : Nat) (pk : List Int) (w : World) (hl : LayT w ao ls) (hp : LayZ w ap pk)
    (hz1 : -9223372036854775808 ≤ zw) (hz2 : zw ≤ 9223372036854775807) (hz3 : -9223372036854775808 ≤ zs) (hz4 : zs ≤ 9223372036854775807) (hpk : ∀ z ∈ pk, z ≤ 9223372036854775807) (hm : ∀ t ∈ ls, t.length ≤ 9223372036854775807) (hLm : ls.length ≤ maxLen) (hPm : pk.length ≤ maxLen) :
    Calls Try.prog 5 #[.slice ao ls.length cap, .agg #[.int .i64 zw, .int .i64 zs], .slice ap pk.length capp] w fun r w' => r = .returned (.bool true) ∧ Below w.heap.size w w' := by
  obtain ⟨w0, hw0⟩ : ∃ w0, w.alloc (.cells #[.int .i64 zw, .int .i64 zs] 66) = w0 := ⟨_, rfl⟩
  have hb0 : Below w.heap.size w w0 := hw0 ▸ (Below.refl _ _).alloc (Nat.le_refl _) _
  have hr0 : w0.heap[w.heap.size]? = some (.cells #[.int .i64 zw, .int .i64 zs] 66 (0, 0)) := hw0 ▸ heap_alloc_new w _
  obtain ⟨Z, hZ⟩ : ∃ Z, w.heap.size = Z := ⟨_, rfl⟩
  rw [hZ] at hr0
  have HZ := Lib.hid hZ
  have CA := Lib.hid (awake_any w0)
  have B0 := Lib.hid hb0
  have R0 := Lib.hid hr0
  obtain ⟨hw1, hw2⟩ := size_ok zw
  obtain ⟨hs1, hs2⟩ := size_ok zs
  obtain ⟨L, hL⟩ : ∃ L, ls.length = L := ⟨_, rfl⟩
  obtain ⟨P, hP⟩ : ∃ P, pk.length = P := ⟨_, rfl⟩
  have HLen := Lib.hid hL
  have HPen := Lib.hid hP
  have HT := Lib.hid hl
  have HPk := Lib.hid hp
  have HPb := Lib.hid hpk
  have HMb := Lib.hid hm
  rw [hL] at hLm ⊢
  rw [hP] at hPm ⊢
  unfold maxLen at hLm hPm
  have n1 := Int.lt_tmod_of_pos zw (show (0 : Int) < 100 by decide)
  have n2 := Int.tmod_lt_of_pos zw (show (0 : Int) < 100 by decide)
  have n3 := Int.lt_tmod_of_pos zs (show (0 : Int) < 100 by decide)
  have n4 := Int.tmod_lt_of_pos zs (show (0 : Int) < 100 by decide)
  have eW : zw.tmod 100 % 100 + 1 = sizeZ zw := rfl
  have eS : zs.tmod 100 % 100 + 1 = sizeZ zs := rfl
  obtain ⟨Wn, hWn⟩ : ∃ Wn, sizeZ zw = Wn := ⟨_, rfl⟩
  obtain ⟨Sn, hSn⟩ : ∃ Sn, sizeZ zs = Sn := ⟨_, rfl⟩
  rw [hWn] at hw1 hw2 eW
  rw [hSn] at hs1 hs2 eS
  clear hl hp hpk hm hL hP hb0 hr0 hWn hSn
  go_enter Try.func5, Try.ntmps5
  repeat (first | (go_at_call 6; refine CA.out.mono ?_; rintro r w1 ⟨rfl, hb⟩; simp only []; have B1 := Lib.hid (Below.trans B0.out (hb.mono B0.out.size)); have R1 := Lib.hid ((hb.block Z (Array.getElem?_eq_some_iff.1 R0.out).1).trans R0.out); clear hb) | go_skip | go_guarded | go_step | go_upon)
  have c0 := cell_regrown ((row_cell (j := 0) R1.out).trans rfl)
  have c1 := cell_regrown ((row_cell (j := 1) R1.out).trans rfl)
  with_reducible refine wp_region_quiet_below (by kernel_rfl) (by kernel_rfl) ?_
  repeat (go_big_quiet_step (fail))
  refine wpQuiet_nil ?_
  intro _ hw'
  obtain ⟨⟨dq, osq⟩, hw''⟩ := hw'
  subst hw''
  have W2 : Hid (Below w1.heap.size w1 (Go.Sort.grow (redrawn w1 dq) osq)) := Lib.hid (below_regrown w1 dq osq)
  generalize Go.Sort.grow (redrawn w1 dq) osq = w2 at W2 ⊢
  have B2 := Lib.hid (Below.trans B1.out (W2.out.mono B1.out.size))
  clear c0 c1
  have CO := Lib.hid (fun W => newOut_any Wn Sn W hw1 hs1)
  have CI := Lib.hid (fun W => newIn_any W)
  repeat (first | (go_at_call 7; fail) | go_skip | go_guarded | go_step | go_upon)
  refine (CO.out _).mono ?_
  rintro r w3 ⟨rfl, h3, hb3⟩
  simp only []
  obtain ⟨b, hb⟩ : ∃ b, w2.heap.size = b := ⟨_, rfl⟩
  rw [hb] at h3 ⊢
  have Hb := Lib.hid hb
  have H3 := Lib.hid h3
  have B3 := Lib.hid (B2.out.trans (hb3.mono B2.out.size))
  clear h3 hb3
  repeat (first | (go_at_call 13; fail) | go_skip | go_guarded | go_step | go_upon)
  refine (CI.out _).mono ?_
  rintro r w4 ⟨bi, vi, rfl, h4, hb4, hl4⟩
  simp only []
  have S4 : Hid (St w b bi Wn Sn [] (.slice none 0 0) (List.replicate 64 (noR, .slice none 0 0)) [] vi (.slice none 0 0) w4) := Lib.hid ⟨H3.out.below hb4, h4, fun k hk => hk.elim (fun e => by rw [e, ← Hb.out]; exact B2.out.size) (fun e => by cases e), fun k hk => by have := hl4 k hk; have := B3.out.size; omega, B3.out.trans (hb4.mono B3.out.size)⟩
  clear h4 hb4 hl4 CO CI eW eS
  go_upto_block 0 with fail
  obtain ⟨m, hmm⟩ : ∃ m, putN ls = m := ⟨_, rfl⟩
  have HM := Lib.hid hmm
  obtain ⟨hmL, hm10⟩ := putN_le ls
  rw [hmm] at hmL hm10
  rw [HLen.out] at hmL
  clear hmm
  go_cut [] from 27 (fun wc => ∃ v, St w b bi Wn Sn ((ls.take m).map newC) v (List.replicate 64 (noR, .slice none 0 0)) [] vi (.slice none 0 0) wc)
  case first =>
    go_wp2_with fail
    go_loopg [12, 13, 52] m (fun g _ _ s52 wx => ∃ (j : Nat) (v : Value), s52 = .int .i64 j ∧ g = m - j ∧ j ≤ m ∧ St w b bi Wn Sn ((ls.take j).map newC) v (List.replicate 64 (noR, .slice none 0 0)) [] vi (.slice none 0 0) wx)
    case atStart => exact ⟨0, _, rfl, rfl, Nat.zero_le _, S4.out⟩
    case round =>
      obtain ⟨j, v, rfl, rfl, hj, hst⟩ := hrel
      have HS := Lib.hid hst
      by_cases hlt : j < m
      · have hjz : (j : Int) < L := by omega
        have hj10 : ((j : Int) == 10) = false := by simp; omega
        obtain ⟨t, ht⟩ : ∃ t, ls[j]? = some t := ⟨ls[j]'(by rw [HLen.out]; omega), List.getElem?_eq_getElem _⟩
        have hts : t.length ≤ 200 := put_small (by rw [HM.out]; exact hlt) ht
        obtain ⟨gt, ot, rfl, hgt, hct⟩ := (HT.out.below hst.bel (Nat.le_refl _)) (by rw [HLen.out]; omega)
        have ct := hct j t ht
        have CP := Lib.hid (Put_any b Wn Sn _ v t wr hst.o (by omega))
        have hkl : ((ls.take j).map newC).length = j := by rw [List.length_map, List.length_take, HLen.out]; omega
        have hnext : (ls.take (j + 1)).map newC = (ls.take j).map newC ++ [newC t] := by rw [List.take_add_one, ht, Option.toList_some, List.map_append, List.map_singleton]
        have HN := Lib.hid hnext
        have HK := Lib.hid hkl
        obtain ⟨T, hT⟩ : ∃ T : ByteArray, ⟨t.toArray⟩ = T := ⟨_, rfl⟩
        have hTz : T.size = t.length := by rw [← hT, Lib.size_eq]
        obtain ⟨tl, htl⟩ : ∃ tl, t.length = tl := ⟨_, rfl⟩
        rw [htl] at hTz hts
        have HTl := Lib.hid htl
        have htz : ¬ (200 : Int) < tl := by omega
        unfold txt at ct CP
        rw [hT] at ct CP
        clear hst hnext hkl hct hT ht htl
        repeat (first | (go_at_call 9; fail) | go_skip | go_guarded | go_step | go_upon)
        refine CP.out.mono ?_
        intro r w5 h5
        unfold PutPost at h5
        rw [HK.out, if_pos (by rw [HTl.out]; omega)] at h5
        obtain ⟨rfl, v', h5, ho5, hv5⟩ := h5
        simp only []
        have S5 : Hid (St w b bi Wn Sn ((ls.take (j + 1)).map newC) v' (List.replicate 64 (noR, .slice none 0 0)) [] vi (.slice none 0 0) w5) := Lib.hid ⟨by rw [HN.out]; exact h5, HS.out.i.keep ho5 (fun k hk hm => sep HS.out.o HS.out.i k hm hk), fun k hk => by
            rcases hk with rfl | hk
            · exact HS.out.l1 _ (.inl rfl)
            · rcases hv5 with e | ⟨g5, e, hg5⟩
              · exact HS.out.l1 _ (.inr (by rw [← e]; exact hk))
              · rw [e] at hk
                injection hk with hk
                have := HS.out.bel.size
                omega, HS.out.l2, HS.out.bel.trans (ho5.below (fun k hk _ hm => by have := HS.out.l1 k hm; omega) HS.out.bel.size)⟩
        clear h5 ho5 hv5
        repeat (first | go_skip | go_guarded | go_step | go_upon)
        go_roundg (m - (j + 1))
        case measure => omega
        case rel => exact ⟨j + 1, v', by go_num, rfl, by omega, S5.out⟩
      · obtain rfl : j = m := by omega
        by_cases hjL : j = L
        · have hjz : ¬ (j : Int) < L := by omega
          clear hst
          repeat (first | go_skip | go_guarded | go_step | go_upon)
          go_meet
          case rel => exact ⟨v, HS.out⟩
        · have hjz : (j : Int) < L := by omega
          obtain ⟨t, ht⟩ : ∃ t, ls[j]? = some t := ⟨ls[j]'(by rw [HLen.out]; omega), List.getElem?_eq_getElem _⟩
          obtain ⟨gt, ot, rfl, hgt, hct⟩ := (HT.out.below hst.bel (Nat.le_refl _)) (by rw [HLen.out]; omega)
          have ct := hct j t ht
          have hend := put_end (ls := ls) (t := t) (by rw [HM.out]; exact ht)
          rw [HM.out] at hend
          obtain ⟨T, hT⟩ : ∃ T : ByteArray, ⟨t.toArray⟩ = T := ⟨_, rfl⟩
          have hTz : T.size = t.length := by rw [← hT, Lib.size_eq]
          have htm := HMb.out t (List.mem_of_getElem? ht)
          obtain ⟨tl, htl⟩ : ∃ tl, t.length = tl := ⟨_, rfl⟩
          rw [htl] at hTz hend htm
          unfold txt at ct
          rw [hT] at ct
          clear hst hct hT ht htl
          by_cases h10 : j = 10
          · subst h10
            repeat (first | go_skip | go_guarded | go_step | go_upon)
            go_meet
            case rel => exact ⟨v, HS.out⟩
          · have hj10 : ((j : Int) == 10) = false := by simp; omega
            have htz : (200 : Int) < tl := by omega
            repeat (first | go_skip | go_guarded | go_step | go_upon)
            go_meet
            case rel => exact ⟨v, HS.out⟩
  case rest =>
    obtain ⟨v, hst⟩ := hcut
    have hts : ∀ t ∈ ls.take m, t.length ≤ 200 := fun t ht => by
      obtain ⟨k, hk⟩ := List.getElem?_of_mem ht
      have hkm : k < m := by have := (List.getElem?_eq_some_iff.1 hk).1; rw [List.length_take] at this; omega
      rw [List.getElem?_take_of_lt hkm] at hk
      exact put_small (by rw [HM.out]; exact hkm) hk
    have htl : (ls.take m).length = m := by rw [List.length_take, HLen.out]; omega
    have hJ := Jp.start (ts := ls.take m) (by omega) hts
    have hrem := rem_new (ls.take m) hts
    rw [htl] at hrem
    have HJ := Lib.hid hJ
    have HRem := Lib.hid hrem
    have HTl := Lib.hid htl
    have HS := Lib.hid hst
    clear hst hts htl hJ hrem
    repeat (first | go_skip | go_guarded | go_step | go_upon)
    go_loopg [14, 15] 5000 (fun g s14 s15 wx => ∃ (k : Nat) (cs : List Cl) (ps : List (Rc × Value)) (ds : List Int) (d : Value) (acks : List (Nat × Nat)),
      s15 = .int .i64 k ∧ g = 5000 - k ∧ St w b bi Wn Sn cs v ps ds vi d wx ∧ Jp none (ls.take m) cs (ps.map Prod.fst) acks ∧ (∀ p ∈ ps, p.1.text.length ≤ 65536) ∧ AckA w s14 acks wx ∧ k + 2 * remL cs + (if acks = [] then 0 else 1) ≤ 4000 ∧ ds.length ≤ k ∧ acks.length ≤ k)
    case atStart =>
      refine ⟨0, _, _, _, _, [], rfl, rfl, HS.out, ?_, fun p hp => ?_, World.ownsRow_nil _ _ _ _, ?_, Nat.le_refl _, Nat.le_refl _⟩
      · rw [List.map_replicate]
        exact HJ.out
      · rw [(List.mem_replicate.1 hp).2]
        decide
      · have := HRem.out
        rw [if_pos rfl]
        omega
    case round =>
      obtain ⟨k, cs, ps, ds, d, acks, rfl, rfl, hst, hJ, hpok, hack, hphi, hdl, hal⟩ := hrel
      have HS := Lib.hid hst
      have HJ := Lib.hid hJ
      have HPok := Lib.hid hpok
      have HAck := Lib.hid hack
      have HDl := Lib.hid hdl
      have HAl := Lib.hid hal
      have CL := Lib.hid (Left_any b Wn Sn cs v wr hst.o)
      obtain ⟨lf, hlf⟩ : ∃ lf, leftL cs = lf := ⟨_, rfl⟩
      have hlf10 : lf ≤ 10 := by
        rw [← hlf]
        have := left_le cs cs.length
        have := hJ.l10
        unfold leftL
        omega
      rw [hlf] at CL
      have HLf := Lib.hid hlf
      have hk4 : k ≤ 4000 := by omega
      have hkz : (k : Int) < 5000 := by omega
      have HPhi := Lib.hid hphi
      clear hst hJ hpok hack hphi hdl hal hlf
      by_cases hl0 : lf = 0
      · subst hl0
        repeat (first | (go_at_call 12; refine CL.out.mono ?_; rintro r w5 ⟨rfl, rfl⟩; simp only []) | go_skip | go_guarded | go_step | go_upon)
        have HW := Lib.hid (fun (j : Nat) (t : List UInt8) (h : (ls.take m)[j]? = some t) => HJ.out.whole HLf.out h)
        go_loopg [23, 24, 25, 26, 148] m (fun g _ _ _ _ s148 wx => ∃ (j : Nat), s148 = .int .i64 j ∧ g = m - j ∧ j ≤ m ∧ St w b bi Wn Sn cs v ps ds vi d wx)
        case atStart => exact ⟨0, rfl, rfl, Nat.zero_le _, HS.out⟩
        case round =>
          obtain ⟨j, rfl, rfl, hj, hst⟩ := hrel
          have HSx := Lib.hid hst
          have CLx := Lib.hid (Left_any b Wn Sn cs v wr hst.o)
          rw [HLf.out] at CLx
          by_cases hlt : j < m
          · have hjz : (j : Int) < L := by omega
            have hj10 : ((j : Int) == 10) = false := by simp; omega
            obtain ⟨t, ht⟩ : ∃ t, ls[j]? = some t := ⟨ls[j]'(by rw [HLen.out]; omega), List.getElem?_eq_getElem _⟩
            have hts : t.length ≤ 200 := put_small (by rw [HM.out]; exact hlt) ht
            obtain ⟨gt, ot, rfl, hgt, hct⟩ := (HT.out.below hst.bel (Nat.le_refl _)) (by rw [HLen.out]; omega)
            have ct := hct j t ht
            have hwh := HW.out j t (by rw [List.getElem?_take_of_lt hlt]; exact ht)
            have htv : textV ps (j : Nat) = ⟨t, true⟩ := by
              rw [List.getElem?_map] at hwh
              obtain ⟨p, hp, hp1⟩ := Option.map_eq_some_iff.1 hwh
              unfold textV rcAt
              rw [if_pos (by omega), Int.toNat_natCast, hp]
              exact hp1
            have CT := Lib.hid (Text_any bi ps ds vi d (j : Nat) wr hst.i)
            rw [htv] at CT
            obtain ⟨T, hT⟩ : ∃ T : ByteArray, ⟨t.toArray⟩ = T := ⟨_, rfl⟩
            have hTz : T.size = t.length := by rw [← hT, Lib.size_eq]
            obtain ⟨tl, htl⟩ : ∃ tl, t.length = tl := ⟨_, rfl⟩
            rw [htl] at hTz hts
            have htz : ¬ (200 : Int) < tl := by omega
            unfold txt at ct CT
            rw [hT] at ct CT
            have hTT : (T.toList == T.toList) = true := by simp
            clear hst hct hT ht htl hwh htv
            repeat (first | (go_at_call 19; refine CT.out.mono ?_; rintro r w6 ⟨rfl, hb⟩; simp only []; have HS6 := Lib.hid (HSx.out.below hb); clear hb) | go_skip | go_guarded | go_step | go_upon)
            go_roundg (m - (j + 1))
            case measure => omega
            case rel => exact ⟨j + 1, by go_num, rfl, by omega, HS6.out⟩
          · obtain rfl : j = m := by omega
            by_cases hjL : j = L
            · have hjz : ¬ (j : Int) < L := by omega
              clear hst
              repeat (first | (go_at_call 12; refine CLx.out.mono ?_; rintro r w6 ⟨rfl, rfl⟩; simp only []) | go_skip | go_guarded | go_step | go_upon)
              go_ret
              exact ⟨rfl, HSx.out.bel⟩
            · have hjz : (j : Int) < L := by omega
              obtain ⟨t, ht⟩ : ∃ t, ls[j]? = some t := ⟨ls[j]'(by rw [HLen.out]; omega), List.getElem?_eq_getElem _⟩
              obtain ⟨gt, ot, rfl, hgt, hct⟩ := (HT.out.below hst.bel (Nat.le_refl _)) (by rw [HLen.out]; omega)
              have ct := hct j t ht
              have hend := put_end (ls := ls) (t := t) (by rw [HM.out]; exact ht)
              rw [HM.out] at hend
              obtain ⟨T, hT⟩ : ∃ T : ByteArray, ⟨t.toArray⟩ = T := ⟨_, rfl⟩
              have hTz : T.size = t.length := by rw [← hT, Lib.size_eq]
              have htm := HMb.out t (List.mem_of_getElem? ht)
              obtain ⟨tl, htl⟩ : ∃ tl, t.length = tl := ⟨_, rfl⟩
              rw [htl] at hTz hend htm
              unfold txt at ct
              rw [hT] at ct
              clear hst hct hT ht htl
              by_cases h10 : j = 10
              · subst h10
                repeat (first | (go_at_call 12; refine CLx.out.mono ?_; rintro r w6 ⟨rfl, rfl⟩; simp only []) | go_skip | go_guarded | go_step | go_upon)
                go_ret
                exact ⟨rfl, HSx.out.bel⟩
              · have hj10 : ((j : Int) == 10) = false := by simp; omega
                have htz : (200 : Int) < tl := by omega
                repeat (first | (go_at_call 12; refine CLx.out.mono ?_; rintro r w6 ⟨rfl, rfl⟩; simp only []) | go_skip | go_guarded | go_step | go_upon)
                go_ret
                exact ⟨rfl, HSx.out.bel⟩
      · have hlz : (0 : Int) < lf := by omega
        repeat (first | (go_at_call 12; refine CL.out.mono ?_; rintro r w5 ⟨rfl, rfl⟩; simp only []) | (go_not_at_if 81; first | go_skip | go_guarded | go_step | go_upon))
        go_cut [16] (fun s16 wc => ∃ pv : Int, s16 = .int .i64 pv ∧ pv ≤ 9223372036854775807 ∧ wc = w5)
        case first =>
          by_cases hP0 : P = 0
          · subst hP0
            repeat (first | go_skip | go_guarded | go_step | go_upon)
            go_meet
            case rel => exact ⟨0, rfl, by decide, rfl⟩
          · have hPz : (0 : Int) < P := by omega
            obtain ⟨q, hq⟩ : ∃ q, k % P = q := ⟨_, rfl⟩
            have hqP : q < P := by rw [← hq]; exact Nat.mod_lt _ (by omega)
            have hqz : (q : Int) < P := by omega
            have hmod : (k : Int).tmod (P : Int) = (q : Nat) := by rw [← hq]; exact Int.ofNat_tmod k P ▸ rfl
            have hmod2 : (k : Int) % (P : Int) = (q : Nat) := by rw [← hq]; rfl
            obtain ⟨z, hz⟩ : ∃ z, pk[q]? = some z := ⟨pk[q]'(by rw [HPen.out]; exact hqP), List.getElem?_eq_getElem _⟩
            have hzm := HPb.out z (List.mem_of_getElem? hz)
            obtain ⟨gp, op, rfl, hgp, hcp⟩ := (HPk.out.below HS.out.bel (Nat.le_refl _)) (by rw [HPen.out]; omega)
            have cp := hcp q z hz
            clear hq hcp hz
            repeat (first | go_skip | go_guarded | go_step | go_upon)
            go_meet
            case rel => exact ⟨z, rfl, hzm, rfl⟩
        case rest =>
          obtain ⟨pv, rfl, hpv, rfl⟩ := hcut
          have CS := Lib.hid (Send_any b Wn Sn cs v pv wc HS.out.o HJ.out.ok (by omega) (by omega) (by omega) (by omega) (by have := HJ.out.l10; omega) hpv)
          repeat (first | (go_at_call 8; fail) | go_skip | go_guarded | go_step | go_upon)
          refine CS.out.mono ?_
          intro r w6 h6
          unfold SendPost at h6
          cases hch : chosen Wn cs pv with
          | none =>
            rw [hch] at h6
            obtain ⟨rfl, hb6⟩ := h6
            have hne := HJ.out.some_ack (W := Wn) (by omega) (by rw [HLf.out]; omega) (chosen_none hch)
            have HNe := Lib.hid hne
            unfold noF
            simp only []
            obtain ⟨aa, ca, rfl, -⟩ := owns_view HAck.out
            repeat (first | go_skip | go_guarded | go_step | go_upon)
            have b7 : Below w6.heap.size w6 (w6.alloc (.cells #[.int .i64 0, .int .i64 0, .string ⟨#[]⟩, .bool false] 29)) := (Below.refl _ _).alloc (Nat.le_refl _) _
            have r7 := heap_alloc_new w6 (.cells #[.int .i64 0, .int .i64 0, .string ⟨#[]⟩, .bool false] 29)
            generalize w6.alloc (.cells #[.int .i64 0, .int .i64 0, .string ⟨#[]⟩, .bool false] 29) = w7 at b7 r7 ⊢
            obtain ⟨F, hF⟩ : ∃ F, w6.heap.size = F := ⟨_, rfl⟩
            rw [hF] at r7 ⊢
            obtain ⟨FR, hFR⟩ : ∃ FR : Array Value, #[.int .i64 0, .int .i64 0, .string ⟨#[]⟩, .bool false] = FR := ⟨_, rfl⟩
            rw [hFR] at r7
            have HSA := Lib.hid ((HS.out.below hb6).below b7)
            have HAckA := Lib.hid ((HAck.out.below hb6).below b7)
            have RFA := Lib.hid r7
            have HJA := Lib.hid HJ.out
            have HX : Hid ((fun _ : List Cl => True) cs) := Lib.hid trivial
            clear hb6 b7 r7 hne hch hFR hF
            obtain ⟨na, hna⟩ : ∃ na, acks.length = na := ⟨_, rfl⟩
            have HNa := Lib.hid hna
            have hnaz : (na : Int) ≤ 4000 := by have := HAl.out; omega
            try rw [hna]
            clear hna
            repeat (first | go_skip | go_guarded | go_step | go_upon)
            go_loopg [104, 20] na (fun g s104 _ wx => ∃ (j : Nat) (cs' : List Cl), s104 = .int .i64 j ∧ g = na - j ∧ j ≤ na ∧ St w b bi Wn Sn cs' v ps ds vi d wx ∧ Jp none (ls.take m) cs' (ps.map Prod.fst) (acks.drop j) ∧ remL cs' = remL cs ∧ (fun _ => True) cs' ∧ AckA w (.slice aa acks.length ca) acks wx ∧ wx.heap[F]? = some (.cells FR 29 (0, 0)))
            case atStart => exact ⟨0, _, rfl, rfl, Nat.zero_le _, HSA.out, HJA.out, rfl, HX.out, HAckA.out, RFA.out⟩
            case round =>
              obtain ⟨j, cs', rfl, rfl, hj, hst, hJ, hrm, hx, hack, hF⟩ := hrel
              have HS' := Lib.hid hst
              have HJ' := Lib.hid hJ
              have HX' := Lib.hid hx
              have HAck' := Lib.hid hack
              have HF' := Lib.hid hF
              have HRm := Lib.hid hrm
              clear hst hJ hrm hx hF
              by_cases hlt : j < na
              · have hjz : (j : Int) < na := by omega
                obtain ⟨⟨c1, n1⟩, ha⟩ : ∃ a, acks[j]? = some a := ⟨acks[j]'(by rw [HNa.out]; exact hlt), List.getElem?_eq_getElem _⟩
                have hdr : acks.drop j = (c1, n1) :: acks.drop (j + 1) := by
                  rw [List.drop_eq_getElem_cons (by rw [HNa.out]; exact hlt), (List.getElem?_eq_some_iff.1 ha).2]
                have hJ2 := HJ'.out
                rw [hdr] at hJ2
                obtain ⟨cc, hcc, hok, hJ3, hrm3⟩ := hJ2.ack
                have HJ3 := Lib.hid hJ3
                have HRm3 := Lib.hid hrm3
                have HOk := Lib.hid hok
                have HCc := Lib.hid hcc
                obtain ⟨ga, ka, cur, ea, hra, hta, -, -⟩ := own_parts hack (by rw [HNa.out]; omega)
                injection ea with ea _ _
                subst ea
                have q0 := (row_cell (j := j * 2 + 0) hra).trans ((cur_at hta (rows_at (f := owC) owC_len ha (show 0 < 2 by decide))).trans rfl)
                have q1 := (row_cell (j := j * 2 + 1) hra).trans ((cur_at hta (rows_at (f := owC) owC_len ha (show 1 < 2 by decide))).trans rfl)
                rw [Nat.add_zero] at q0
                obtain ⟨wB, hwB⟩ : ∃ wB, wr.alloc (.cells #[.int .i64 (c1 : Nat), .int .i64 (n1 : Nat)] 69) = wB := ⟨_, rfl⟩
                have bB : Below wr.heap.size wr wB := hwB ▸ (Below.refl _ _).alloc (Nat.le_refl _) _
                have rB : wB.heap[wr.heap.size]? = some (.cells #[.int .i64 (c1 : Nat), .int .i64 (n1 : Nat)] 69 (0, 0)) := hwB ▸ heap_alloc_new wr _
                have HSB := Lib.hid (HS'.out.below bB)
                have HAckB := Lib.hid (HAck'.out.below bB)
                have HFB := Lib.hid ((bB.block F (Array.getElem?_eq_some_iff.1 HF'.out).1).trans HF'.out)
                have e0 := (row_cell (j := 0) rB).trans rfl
                have e1 := (row_cell (j := 1) rB).trans rfl
                have CK := Lib.hid (Ack_any b Wn Sn cs' v (c1 : Nat) (n1 : Nat) wB HSB.out.o)
                have hnaj : acks.length = na := HNa.out
                clear hack hra hta ha hdr hJ2 hcc hok hJ3 hrm3 bB rB
                repeat (first | (go_at_call 10; fail) | go_skip | go_guarded | go_step | go_upon)
                refine CK.out.mono ?_
                intro r w8 h8
                rw [HOk.out] at h8
                obtain ⟨rfl, h8, hO8⟩ := h8
                simp only []
                have hct : ((c1 : Nat) : Int).toNat = c1 := rfl
                have hnt : ((n1 : Nat) : Int).toNat = n1 := rfl
                rw [hct, hnt] at h8
                have HS8 := Lib.hid (HSB.out.left h8 hO8)
                have HAck8 := Lib.hid (HAckB.out.left HSB.out.o hO8)
                have HF8 := Lib.hid ((hO8.block F (Array.getElem?_eq_some_iff.1 HFB.out).1 (not_mo HSB.out.o HFB.out (by decide) (by decide))).trans HFB.out)
                clear h8 hO8 hct hnt
                repeat (first | go_skip | go_guarded | go_step | go_upon)
                go_roundg (na - (j + 1))
                case measure => omega
                case rel => exact ⟨j + 1, _, by go_num, rfl, by omega, HS8.out, HJ3.out, HRm3.out.trans HRm.out, trivial, HAck8.out, HF8.out⟩
              · have hjz : ¬ (j : Int) < na := by omega
                obtain rfl : j = na := by omega
                have HJE : Hid (Jp none (ls.take m) cs' (ps.map Prod.fst) []) := Lib.hid (by
                  have h := HJ'.out
                  rw [← HNa.out, List.drop_length] at h
                  exact h)
                clear hack
                repeat (first | go_skip | go_guarded | go_step | go_upon)
                repeat (first | go_skip | go_guarded | go_step | go_upon)
                go_roundg (5000 - (k + 1))
                case measure => omega
                case rel =>
                  refine ⟨k + 1, cs', ps, ds, d, [], by go_num, rfl, HS'.out, HJE.out, HPok.out, World.ownsRow_nil _ _ _ _, ?_, by have := HDl.out; omega, Nat.zero_le _⟩
                  have h1 := HPhi.out
                  rw [if_neg HNe.out] at h1
                  rw [if_pos rfl, HRm.out]
                  omega
          | some i =>
            rw [hch] at h6
            obtain ⟨c, hc, rfl, ho6, hO6⟩ := h6
            have hmay : mayB Wn c = true := by
              obtain ⟨c2, hc2, hm2⟩ := chosen_some hch
              rw [hc] at hc2
              injection hc2 with hc2
              rw [hc2]
              exact hm2
            have hcok := HJ.out.ok c (List.mem_of_getElem? hc)
            have hway : (c.way : Int) < Wn := by
              unfold mayB at hmay
              simp only [Bool.and_eq_true, decide_eq_true_eq] at hmay
              exact hmay.2
            obtain ⟨hJ1, hrem1⟩ := HJ.out.send (W := Wn) (S := Sn) hc (by omega) hmay
            have hHd := Hd.new (S := Sn) hc hcok (by omega) hway
            have hpl := piece_le (W := Wn) (S := Sn) (c := c) (by omega) hway
            have hfl := frO_len (W := Wn) (S := Sn) (i := i) (c := c) (by omega) hway
            obtain ⟨X, hX⟩ : ∃ X : ByteArray, ⟨(frO Wn Sn i c).text.toArray⟩ = X := ⟨_, rfl⟩
            have hXz : X.size = pieceN Wn Sn c := by rw [← hX, Lib.size_eq]; exact hfl
            obtain ⟨lb, hlb⟩ : ∃ lb, decide (c.sent + pieceN Wn Sn c = c.text.length) = lb := ⟨_, rfl⟩
            obtain ⟨sn, hsn⟩ : ∃ sn, c.sent = sn := ⟨_, rfl⟩
            have hfv : frV (frO Wn Sn i c) = .agg #[.int .i64 (i : Nat), .int .i64 (sn : Nat), .string X, .bool lb] := by rw [← hX, ← hlb, ← hsn]; rfl
            rw [hfv]
            simp only []
            obtain ⟨w7, hw7⟩ : ∃ w7, w6.alloc (.cells #[.int .i64 (i : Nat), .int .i64 (sn : Nat), .string X, .bool lb] 29) = w7 := ⟨_, rfl⟩
            have b7 : Below w6.heap.size w6 w7 := hw7 ▸ (Below.refl _ _).alloc (Nat.le_refl _) _
            have r7 : w7.heap[w6.heap.size]? = some (.cells #[.int .i64 (i : Nat), .int .i64 (sn : Nat), .string X, .bool lb] 29 (0, 0)) := hw7 ▸ heap_alloc_new w6 _
            obtain ⟨F, hF⟩ : ∃ F, w6.heap.size = F := ⟨_, rfl⟩
            rw [hF] at r7
            obtain ⟨FR, hFR⟩ : ∃ FR : Array Value, #[.int .i64 (i : Nat), .int .i64 (sn : Nat), .string X, .bool lb] = FR := ⟨_, rfl⟩
            rw [hFR] at r7
            have HFR := Lib.hid hFR
            have HSA := Lib.hid ((HS.out.left ho6 hO6).below b7)
            have HAckA := Lib.hid ((HAck.out.left HS.out.o hO6).below b7)
            have RFA := Lib.hid r7
            rw [hsn] at hJ1 hHd hlb
            have HJA := Lib.hid hJ1
            have HX : Hid (Hd Wn i c.text (sn + pieceN Wn Sn c) (cs.set i (goOn Wn Sn c))) := Lib.hid hHd
            have HFv := Lib.hid hfv
            have HFl := Lib.hid hfl
            have HRem1 := Lib.hid hrem1
            have HSn := Lib.hid hsn
            have HLb := Lib.hid hlb
            have hXs : (X.size : Int) ≤ Sn := by rw [hXz]; exact hpl.2.1
            have HXz := Lib.hid hXz
            have HCi := Lib.hid (List.getElem?_eq_some_iff.1 hc).1
            clear ho6 hO6 hc hch hmay hcok hway hJ1 hrem1 hHd hpl hfl hX hXz hlb hsn hfv b7 r7 hFR
            repeat (go_not_at_if 101; first | go_skip | go_guarded | go_step | go_upon)
            go_cut [14] (fun s14' wc => ∃ (cs' : List Cl) (acks' : List (Nat × Nat)), AckA w s14' acks' wc ∧ St w b bi Wn Sn cs' v ps ds vi d wc ∧ Jp (some (i, sn)) (ls.take m) cs' (ps.map Prod.fst) acks' ∧ remL cs' = remL (cs.set i (goOn Wn Sn c)) ∧ Hd Wn i c.text (sn + pieceN Wn Sn c) cs' ∧ wc.heap[F]? = some (.cells FR 29 (0, 0)) ∧ acks'.length ≤ k)
            case first =>
              cases hpm : (pv.tmod 3 == 0) with
              | true =>
                clear hF hw7
                obtain ⟨aa, ca, rfl, -⟩ := owns_view HAckA.out
                obtain ⟨na, hna⟩ : ∃ na, acks.length = na := ⟨_, rfl⟩
                have HNa := Lib.hid hna
                have hnaz : (na : Int) ≤ 4000 := by have := HAl.out; omega
                try rw [hna]
                clear hna
                repeat (first | go_skip | go_guarded | go_step | go_upon)
                go_loopg [104, 20] na (fun g s104 _ wx => ∃ (j : Nat) (cs' : List Cl), s104 = .int .i64 j ∧ g = na - j ∧ j ≤ na ∧ St w b bi Wn Sn cs' v ps ds vi d wx ∧ Jp (some (i, sn)) (ls.take m) cs' (ps.map Prod.fst) (acks.drop j) ∧ remL cs' = remL (cs.set i (goOn Wn Sn c)) ∧ (Hd Wn i c.text (sn + pieceN Wn Sn c)) cs' ∧ AckA w (.slice aa acks.length ca) acks wx ∧ wx.heap[F]? = some (.cells FR 29 (0, 0)))
                case atStart => exact ⟨0, _, rfl, rfl, Nat.zero_le _, HSA.out, HJA.out, rfl, HX.out, HAckA.out, RFA.out⟩
                case round =>
                  obtain ⟨j, cs', rfl, rfl, hj, hst, hJ, hrm, hx, hack, hF⟩ := hrel
                  have HS' := Lib.hid hst
                  have HJ' := Lib.hid hJ
                  have HX' := Lib.hid hx
                  have HAck' := Lib.hid hack
                  have HF' := Lib.hid hF
                  have HRm := Lib.hid hrm
                  clear hst hJ hrm hx hF
                  by_cases hlt : j < na
                  · have hjz : (j : Int) < na := by omega
                    obtain ⟨⟨c1, n1⟩, ha⟩ : ∃ a, acks[j]? = some a := ⟨acks[j]'(by rw [HNa.out]; exact hlt), List.getElem?_eq_getElem _⟩
                    have hdr : acks.drop j = (c1, n1) :: acks.drop (j + 1) := by
                      rw [List.drop_eq_getElem_cons (by rw [HNa.out]; exact hlt), (List.getElem?_eq_some_iff.1 ha).2]
                    have hJ2 := HJ'.out
                    rw [hdr] at hJ2
                    obtain ⟨cc, hcc, hok, hJ3, hrm3⟩ := hJ2.ack
                    have HJ3 := Lib.hid hJ3
                    have HRm3 := Lib.hid hrm3
                    have HOk := Lib.hid hok
                    have HCc := Lib.hid hcc
                    obtain ⟨ga, ka, cur, ea, hra, hta, -, -⟩ := own_parts hack (by rw [HNa.out]; omega)
                    injection ea with ea _ _
                    subst ea
                    have q0 := (row_cell (j := j * 2 + 0) hra).trans ((cur_at hta (rows_at (f := owC) owC_len ha (show 0 < 2 by decide))).trans rfl)
                    have q1 := (row_cell (j := j * 2 + 1) hra).trans ((cur_at hta (rows_at (f := owC) owC_len ha (show 1 < 2 by decide))).trans rfl)
                    rw [Nat.add_zero] at q0
                    obtain ⟨wB, hwB⟩ : ∃ wB, wr.alloc (.cells #[.int .i64 (c1 : Nat), .int .i64 (n1 : Nat)] 69) = wB := ⟨_, rfl⟩
                    have bB : Below wr.heap.size wr wB := hwB ▸ (Below.refl _ _).alloc (Nat.le_refl _) _
                    have rB : wB.heap[wr.heap.size]? = some (.cells #[.int .i64 (c1 : Nat), .int .i64 (n1 : Nat)] 69 (0, 0)) := hwB ▸ heap_alloc_new wr _
                    have HSB := Lib.hid (HS'.out.below bB)
                    have HAckB := Lib.hid (HAck'.out.below bB)
                    have HFB := Lib.hid ((bB.block F (Array.getElem?_eq_some_iff.1 HF'.out).1).trans HF'.out)
                    have e0 := (row_cell (j := 0) rB).trans rfl
                    have e1 := (row_cell (j := 1) rB).trans rfl
                    have CK := Lib.hid (Ack_any b Wn Sn cs' v (c1 : Nat) (n1 : Nat) wB HSB.out.o)
                    have hnaj : acks.length = na := HNa.out
                    clear hack hra hta ha hdr hJ2 hcc hok hJ3 hrm3 bB rB
                    repeat (first | (go_at_call 10; fail) | go_skip | go_guarded | go_step | go_upon)
                    refine CK.out.mono ?_
                    intro r w8 h8
                    rw [HOk.out] at h8
                    obtain ⟨rfl, h8, hO8⟩ := h8
                    simp only []
                    have hct : ((c1 : Nat) : Int).toNat = c1 := rfl
                    have hnt : ((n1 : Nat) : Int).toNat = n1 := rfl
                    rw [hct, hnt] at h8
                    have HS8 := Lib.hid (HSB.out.left h8 hO8)
                    have HAck8 := Lib.hid (HAckB.out.left HSB.out.o hO8)
                    have HF8 := Lib.hid ((hO8.block F (Array.getElem?_eq_some_iff.1 HFB.out).1 (not_mo HSB.out.o HFB.out (by decide) (by decide))).trans HFB.out)
                    clear h8 hO8 hct hnt
                    repeat (first | go_skip | go_guarded | go_step | go_upon)
                    go_roundg (na - (j + 1))
                    case measure => omega
                    case rel => exact ⟨j + 1, _, by go_num, rfl, by omega, HS8.out, HJ3.out, HRm3.out.trans HRm.out, HX'.out.ack HCc.out HOk.out, HAck8.out, HF8.out⟩
                  · have hjz : ¬ (j : Int) < na := by omega
                    obtain rfl : j = na := by omega
                    have HJE : Hid (Jp (some (i, sn)) (ls.take m) cs' (ps.map Prod.fst) []) := Lib.hid (by
                      have h := HJ'.out
                      rw [← HNa.out, List.drop_length] at h
                      exact h)
                    clear hack
                    repeat (first | go_skip | go_guarded | go_step | go_upon)
                    go_meet
                    case rel => exact ⟨cs', [], World.ownsRow_nil _ _ _ _, HS'.out, HJE.out, HRm.out, HX'.out, HF'.out, Nat.zero_le _⟩
              | false =>
                repeat (first | go_skip | go_guarded | go_step | go_upon)
                go_meet
                case rel => exact ⟨_, acks, HAckA.out, HSA.out, HJA.out, rfl, HX.out, RFA.out, HAl.out⟩
            case rest =>
              obtain ⟨cs', acks', hack, hst, hJ, hrm, hx, hF', hal'⟩ := hcut
              obtain ⟨c', hc', e1, e2, e3, e4⟩ := hx
              have hf : frO Wn Sn i c = ⟨(i : Nat), (sn : Nat), (c'.text.drop sn).take (pieceN Wn Sn c), decide (sn + pieceN Wn Sn c = c'.text.length)⟩ := by
                rw [e1, ← HSn.out]
                rfl
              obtain ⟨r0, hr0, htk, hlen, hJ2⟩ := hJ.take hc' e2 e3 hf
              have hway : wayL cs' (i : Nat) = c'.way := by
                unfold wayL callAt
                rw [if_pos (by omega), Int.toNat_natCast, hc']
                rfl
              have CW := Lib.hid (Way_any b Wn Sn cs' v (i : Nat) wc hst.o hJ.ok)
              rw [hway] at CW
              obtain ⟨wy, hwy⟩ : ∃ wy, c'.way = wy := ⟨_, rfl⟩
              rw [hwy] at CW e4
              have h64 : ps.length = 64 := by have := hJ.rl; rwa [List.length_map] at this
              have HS' := Lib.hid hst
              have HAck' := Lib.hid hack
              have HF' := Lib.hid hF'
              have HRm := Lib.hid hrm
              have HJ2 := Lib.hid hJ2
              have HTk := Lib.hid htk
              have HLn := Lib.hid hlen
              have HE2 := Lib.hid e2
              have HAl' := Lib.hid hal'
              have H64 := Lib.hid h64
              obtain ⟨aa, ca, rfl, -⟩ := owns_view hack
              have row4 : ∀ W : World, W.heap[F]? = some (.cells FR 29 (0, 0)) → W.cell? ⟨F, 0, none⟩ = some (.int .i64 (i : Nat)) ∧ W.cell? ⟨F, 1, none⟩ = some (.int .i64 (sn : Nat)) ∧ W.cell? ⟨F, 2, none⟩ = some (.string X) ∧ W.cell? ⟨F, 3, none⟩ = some (.bool lb) := fun W h => by
                rw [← HFR.out] at h
                exact ⟨(row_cell (j := 0) h).trans rfl, (row_cell (j := 1) h).trans rfl, (row_cell (j := 2) h).trans rfl, (row_cell (j := 3) h).trans rfl⟩
              have Row4 := Lib.hid row4
              obtain ⟨y0, y1, y2, y3⟩ := row4 wc hF'
              obtain ⟨xs, hxs⟩ : ∃ xs, X.size = xs := ⟨_, rfl⟩
              rw [hxs] at hXs
              have hnx : ¬ Sn < (xs : Int) := by omega
              have hnw : ¬ Wn < (wy : Int) := by omega
              have HXs := Lib.hid hxs
              clear hack hst hJ hrm hF' hal' hc' e1 e2 e3 hf hr0 htk hlen hJ2 hway hwy h64 row4
              repeat (first | (go_at_call 11; fail) | go_skip | go_guarded | go_step | go_upon)
              refine CW.out.mono ?_
              rintro r w8 ⟨rfl, hb8⟩
              simp only []
              have HS8 := Lib.hid (HS'.out.below hb8)
              have HAck8 := Lib.hid (HAck'.out.below hb8)
              have HF8 := Lib.hid ((hb8.block F (Array.getElem?_eq_some_iff.1 HF'.out).1).trans HF'.out)
              have CT := Lib.hid (Take_any bi ps ds vi d (frO Wn Sn i c) w8 HS8.out.i H64.out HPok.out (by have := HDl.out; omega) (by rw [HFl.out, ← HXz.out, HXs.out]; omega))
              rw [HFv.out] at CT
              clear y0 y1 y2 y3 hb8
              obtain ⟨y0, y1, y2, y3⟩ := Row4.out w8 HF8.out
              repeat (first | (go_at_call 17; fail) | go_skip | go_guarded | go_step | go_upon)
              refine CT.out.mono ?_
              intro r w9 h9
              unfold TakePost at h9
              rw [HTk.out] at h9
              obtain ⟨rfl, h9⟩ := h9
              obtain ⟨p9, t9, d9, hp9, hpe, hs9, hO9⟩ := HS8.out.right h9
              rw [HLn.out, HE2.out]
              simp only []
              have hfc : (frO Wn Sn i c).call.toNat = i := rfl
              have hfl9 : (frO Wn Sn i c).last = lb := by rw [← HLb.out, ← HSn.out]; rfl
              rw [hfc] at hs9 hp9
              have HS9 := Lib.hid hs9
              have HAck9 := Lib.hid (HAck8.out.right HS8.out.i hO9)
              have HF9 := Lib.hid ((hO9.block F (Array.getElem?_eq_some_iff.1 HF8.out).1 (not_mi HS8.out.i HF8.out (by decide) (by decide) (by decide) (by decide))).trans HF8.out)
              have HPe := Lib.hid hpe
              have HP9 := Lib.hid hp9
              clear y0 y1 y2 y3 h9 hs9 hO9 hpe hp9 hfc hfl9
              obtain ⟨y0, y1, y2, y3⟩ := Row4.out w9 HF9.out
              obtain ⟨q, hq⟩ : ∃ q, sn + pieceN Wn Sn c = q := ⟨_, rfl⟩
              rw [hq]
              have HQ := Lib.hid hq
              obtain ⟨iW, hiW, hW0, hW1, hW2⟩ := info_parts infoW
              have hAckB := owns_below HAck9.out ((Below.refl _ _).alloc (Nat.le_refl _) (.cells #[.int .i64 (i : Nat), .int .i64 (q : Nat)] 69))
              have HNew : ∀ (j : Nat) (u : Value), (owC (i, q))[j]? = some u → (w9.alloc (.cells #[.int .i64 (i : Nat), .int .i64 (q : Nat)] 69)).cell? ((⟨w9.heap.size, 0, none⟩ : Addr).add j) = some u := fun j u hu => by
                have hr := heap_alloc_new w9 (.cells #[.int .i64 (i : Nat), .int .i64 (q : Nat)] 69)
                have e : (⟨w9.heap.size, 0, none⟩ : Addr).add j = ⟨w9.heap.size, j, none⟩ := by simp [Addr.add]; omega
                rw [e, row_cell hr]
                match j with
                | 0 => exact hu
                | 1 => exact hu
                | j + 2 => cases hu
              have HNew := Lib.hid HNew
              have HAckB := Lib.hid hAckB
              have hB9 := HS9.out.bel.size
              have hal4 := HAl'.out
              clear hAckB hq
              repeat ((fail_if_success (at_builtin)); first | go_skip | go_guarded | go_step | go_upon)
              at_builtin
              refine wpList_append_own _ rfl _ _ 67 rfl w.heap.size 69 iW (.agg #[.int .i64 0, .int .i64 0]) 2 16 Try.underlying67 hiW hW0 hW1 hW2 rfl (by decide) _ _ _ rfl HAckB.out ⟨w9.heap.size, 0, none⟩ 1 1 (owC (i, q)) rfl rfl HNew.out (owC_one _) (by unfold maxLen; omega) (by omega) (by simp; omega) ?_
              intro s10 w10 hown10 hgr10 hnil10
              have b10 : Below w9.heap.size w9 w10 ∨ True := .inr trivial
              have hO10 : Out (fun k0 => (Value.slice aa acks'.length ca).ownBlock = some k0) w9 w10 := ((Out.refl _ w9).alloc _).grown hgr10 (fun k0 e _ => e)
              have hno1 : ∀ k0, mo b v k0 → ¬ (Value.slice aa acks'.length ca).ownBlock = some k0 := fun k0 hm e => by
                obtain ⟨cc, ff, h1⟩ := owns_kind HAck9.out k0 e
                exact not_mo HS9.out.o h1 (by decide) (by decide) hm
              have hno2 : ∀ k0, mi bi (ps.set i (onR r0 (frO Wn Sn i c), t9)) vi d9 k0 → ¬ (Value.slice aa acks'.length ca).ownBlock = some k0 := fun k0 hm e => by
                obtain ⟨cc, ff, h1⟩ := owns_kind HAck9.out k0 e
                exact not_mi HS9.out.i h1 (by decide) (by decide) (by decide) (by decide) hm
              have HS10 := Lib.hid (show St w b bi Wn Sn cs' v (ps.set i (onR r0 (frO Wn Sn i c), t9)) _ vi d9 w10 from ⟨HS9.out.o.keep hO10 hno1, HS9.out.i.keep hO10 hno2, HS9.out.l1, HS9.out.l2, HS9.out.bel.trans (hO10.below (fun k0 hk _ e => by have := (HAck9.out.lt k0 e).1; omega) HS9.out.bel.size)⟩)
              have HA10 : Hid (AckA w s10 (acks' ++ [(i, q)]) w10) := Lib.hid (by
                unfold AckA
                rw [List.length_append, List.length_singleton, List.flatMap_append, List.flatMap_singleton]
                exact hown10)
              obtain ⟨a10, c10, rfl, -⟩ := owns_view hown10
              clear b10 hO10 hno1 hno2 hown10 hgr10 hnil10 y0 y1 y2 y3
              repeat (first | go_skip | go_guarded | go_step | go_upon)
              go_roundg (5000 - (k + 1))
              case measure => omega
              case rel =>
                refine ⟨k + 1, cs', _, _, d9, acks' ++ [(i, q)], by go_num, rfl, HS10.out, ?_, fun p hp => ?_, HA10.out, ?_, ?_, ?_⟩
                · have h := HJ2.out
                  rw [HE2.out, HQ.out] at h
                  rw [List.map_set]
                  exact h
                · rcases List.mem_or_eq_of_mem_set hp with hp | hp
                  · exact HPok.out p hp
                  · rw [hp]
                    have h1 := takes_some HTk.out
                    show (r0.text ++ (frO Wn Sn i c).text).length ≤ 65536
                    rw [List.length_append]
                    have := h1.2.2.1
                    have hrp : r0.text.length ≤ 65536 := by
                      have h2 := HPok.out p9 (List.mem_of_getElem? HP9.out)
                      rw [HPe.out] at h2
                      exact h2
                    omega
                · have h1 := HPhi.out
                  have h2 := HRem1.out
                  rw [HRm.out]
                  rw [if_neg (by simp)]
                  omega
                · have := HDl.out
                  split
                  · rw [List.length_append, List.length_singleton]; omega
                  · omega
                · rw [List.length_append, List.length_singleton]
                  omega
end MX
end Go.Proofs.Ytdkfoakmjeealaa
