/- Layer 6: the walk of TreeMoves. -/
import Derived.Test.YtlofdhnghidcnaaDoorTreeBack
namespace Go.Proofs.YtlofdhnghidcnaaDoor
open Go.RowKit Go.Lib Go.BigFrame
namespace TL
open OM TP TM TR TG

theorem small_at {ts : List Nd} {p : List UInt8} (h : SmallG ts) : SmallG (atL ts p) := by
  unfold atL
  split
  · split
    · intro n hn
      rcases List.mem_cons.1 hn with rfl | hn
      · decide
      · exact h n hn
    · intro n hn
      obtain ⟨x, hx, rfl⟩ := List.mem_map.1 hn
      have := h x (List.mem_filter.1 hx).1
      refine ⟨?_, this.2⟩
      unfold cutN
      simp only
      split
      · simp
      · rw [List.length_drop]; omega
  · intro n hn; simp at hn
theorem len_at (ts : List Nd) (p : List UInt8) : (atL ts p).length ≤ ts.length + 1 := by
  unfold atL
  split
  · split
    · simp
    · rw [List.length_map]; have := List.length_filter_le (fun n : Nd => NP.withinL n.path p) ts; omega
  · simp
set_option maxRecDepth 100000 in
set_option maxHeartbeats 6400000 in
theorem moves_any (ao : Option Addr) (ca : Nat) (ts : List Nd) (src dst : List UInt8) (w : World) (he : NF.Env w) (hA : Arg w ao ca ts) (hs : src.length ≤ 1048576) (hd : dst.length ≤ 1048576) :
    Calls Tryd.prog 7 #[.slice ao ts.length ca, txt src, txt dst] w fun e w' => e = .returned (.bool true) ∧ Below w.heap.size w w' := by
  have CA : Hid (∀ W, Below w.heap.size w W → Calls Tryd.prog 8 #[] W fun e w' => e = .returned (.bool true) ∧ Below W.heap.size W w') := Lib.hid (fun W hW => awake_any W (he.below hW))
  have HE := Lib.hid he
  have HA := Lib.hid hA
  obtain ⟨S, hS, hSd⟩ := txt_of src
  obtain ⟨D, hD, hDd⟩ := txt_of dst
  have HSt := Lib.hid hS
  have HDt := Lib.hid hD
  have HSl := Lib.hid hs
  have HDl := Lib.hid hd
  have HSd := Lib.hid hSd
  obtain ⟨n, hn⟩ : ∃ n, ts.length = n := ⟨_, rfl⟩
  have HN := Lib.hid hn
  obtain ⟨V, hV⟩ : ∃ V, atL ts src = V := ⟨_, rfl⟩
  obtain ⟨kv, hkv⟩ : ∃ kv, V.length = kv := ⟨_, rfl⟩
  have HVe := Lib.hid hV
  have HKv := Lib.hid hkv
  have hkv1 : kv ≤ 1048577 := by rw [← hkv, ← hV]; have := len_at ts src; have := hA.len; omega
  have hkvz : (kv : Int) ≤ 1048577 := by omega
  have HVs : Hid (SmallG V) := Lib.hid (by rw [← hV]; exact small_at hA.small)
  obtain ⟨b1, hb1⟩ : ∃ b, NP.withinL dst src = b := ⟨_, rfl⟩
  obtain ⟨b2, hb2⟩ : ∃ b, NP.withinL src dst = b := ⟨_, rfl⟩
  have CW1 : Hid (∀ W, Calls Tryd.prog 20 #[.string D, .string S] W fun e w' => e = .returned (.bool b1) ∧ Below W.heap.size W w') := Lib.hid (fun W => by rw [← hb1]; exact rwithin_txt D S dst src W hDd hSd hd hs)
  have CW2 : Hid (∀ W, Calls Tryd.prog 20 #[.string S, .string D] W fun e w' => e = .returned (.bool b2) ∧ Below W.heap.size W w') := Lib.hid (fun W => by rw [← hb2]; exact rwithin_txt S D src dst W hSd hDd hs hd)
  have CAt : Hid (∀ W, Below w.heap.size w W → Calls Tryd.prog 19 #[.slice ao n ca, .string S] W (AtPost V W)) := Lib.hid (fun W hW => by
    have := (HA.out.below hW).at (p := src) (HE.out.below hW) hs
    rw [hn, hS, hV] at this
    exact this)
  rw [hn, hS, hD]
  have HB1 := Lib.hid hb1
  have HB2 := Lib.hid hb2
  clear he hA hs hd hS hD hSd hDd hn hV hkv hb1 hb2
  by_cases k0 : kv = 0
  · have k0b : ((kv : Int) == 0) = true := by simp [k0]
    subst k0
    go_enter Tryd.func7, Tryd.ntmps7
    repeat (first
      | (go_at_call 8; refine (CA.out _ (Below.refl _ _)).mono ?_; rintro r w1 ⟨rfl, hb⟩; simp only []; have B1 := Lib.hid hb; clear hb)
      | (go_at_call 19; fail) | go_skip | go_guarded | go_step | go_upon)
    refine (CAt.out _ B1.out).mono ?_
    rintro r w2 ⟨u, rfl, ho, hb⟩
    simp only []
    have B2 := Lib.hid (Below.trans B1.out (hb.mono B1.out.size))
    rw [HKv.out] at ho
    obtain ⟨a2, c2, rfl, _⟩ := owns_view ho
    clear hb ho
    repeat (first | go_skip | go_guarded | go_step | go_upon)
    go_ret
    exact ⟨rfl, B2.out⟩
  · have k0b : ((kv : Int) == 0) = false := by simp; omega
    by_cases s0 : src = []
    · have hSe : S.toList.isEmpty = true := by rw [Lib.toList_data, HSd.out, s0]; rfl
      clear k0 s0
      go_enter Tryd.func7, Tryd.ntmps7
      repeat (first
        | (go_at_call 8; refine (CA.out _ (Below.refl _ _)).mono ?_; rintro r w1 ⟨rfl, hb⟩; simp only []; have B1 := Lib.hid hb; clear hb)
        | (go_at_call 19; fail) | go_skip | go_guarded | go_step | go_upon)
      refine (CAt.out _ B1.out).mono ?_
      rintro r w2 ⟨u, rfl, ho, hb⟩
      simp only []
      have B2 := Lib.hid (Below.trans B1.out (hb.mono B1.out.size))
      rw [HKv.out] at ho
      obtain ⟨a2, c2, rfl, _⟩ := owns_view ho
      clear hb ho
      repeat (first | go_skip | go_guarded | go_step | go_upon)
      go_ret
      exact ⟨rfl, B2.out⟩
    · have hSe : S.toList.isEmpty = false := by rw [Lib.toList_data, HSd.out]; simpa using s0
      have hV0 : V ≠ [] := fun e => k0 (by rw [← HKv.out, e]; rfl)
      have ht : treeB ts = true := by
        cases h : treeB ts with
        | true => rfl
        | false => exact absurd (by rw [← HVe.out]; exact at_not h) hV0
      have hsp : NP.pathL src = true := by
        cases h : NP.pathL src with
        | true => rfl
        | false => exact absurd (by rw [← HVe.out]; exact at_none s0 h) hV0
      cases b1 with
      | true =>
        clear k0 s0 hV0 ht hsp
        go_enter Tryd.func7, Tryd.ntmps7
        repeat (first
          | (go_at_call 8; refine (CA.out _ (Below.refl _ _)).mono ?_; rintro r w1 ⟨rfl, hb⟩; simp only []; have B1 := Lib.hid hb; clear hb)
          | (go_at_call 19; fail) | go_skip | go_guarded | go_step | go_upon)
        refine (CAt.out _ B1.out).mono ?_
        rintro r w2 ⟨u, rfl, ho, hb⟩
        simp only []
        have B2 := Lib.hid (Below.trans B1.out (hb.mono B1.out.size))
        rw [HKv.out] at ho
        obtain ⟨a2, c2, rfl, _⟩ := owns_view ho
        clear hb ho
        repeat (first
          | (go_at_call 20; refine (CW1.out _).mono ?_; rintro r w3 ⟨rfl, hb⟩; simp only []; have B3 := Lib.hid (Below.trans B2.out (hb.mono B2.out.size)); clear hb)
          | go_skip | go_guarded | go_step | go_upon)
        go_ret
        exact ⟨rfl, B3.out⟩
      | false =>
        cases b2 with
        | true =>
          clear k0 s0 hV0 ht hsp
          go_enter Tryd.func7, Tryd.ntmps7
          repeat (first
            | (go_at_call 8; refine (CA.out _ (Below.refl _ _)).mono ?_; rintro r w1 ⟨rfl, hb⟩; simp only []; have B1 := Lib.hid hb; clear hb)
            | (go_at_call 19; fail) | go_skip | go_guarded | go_step | go_upon)
          refine (CAt.out _ B1.out).mono ?_
          rintro r w2 ⟨u, rfl, ho, hb⟩
          simp only []
          have B2 := Lib.hid (Below.trans B1.out (hb.mono B1.out.size))
          rw [HKv.out] at ho
          obtain ⟨a2, c2, rfl, _⟩ := owns_view ho
          clear hb ho
          repeat (first | (go_at_call 20; fail) | go_skip | go_guarded | go_step | go_upon)
          refine (CW1.out _).mono ?_
          rintro r w3 ⟨rfl, hb⟩
          simp only []
          have B3 := Lib.hid (Below.trans B2.out (hb.mono B2.out.size))
          clear hb
          repeat (first
            | (go_at_call 20; refine (CW2.out _).mono ?_; rintro r w4 ⟨rfl, hb⟩; simp only []; have B4 := Lib.hid (Below.trans B3.out (hb.mono B3.out.size)); clear hb)
            | go_skip | go_guarded | go_step | go_upon)
          go_ret
          exact ⟨rfl, B4.out⟩
        | false =>
          have hTr := (tree_iff ts).1 ht
          have hBok := take_ok hTr hsp
          have hn1 : n ≤ 1000 := by rw [← HN.out]; exact hTr.len
          have hvv : Val V := by rw [← HVe.out]; exact at_val hTr hsp
          have hkv2 : kv ≤ 1000 := by rw [← HKv.out]; exact val_len ((val_iff V).2 hvv)
          obtain ⟨XB, hXB⟩ : ∃ X, outL ts src [] = X := ⟨_, rfl⟩
          have hXBt := out_tree hBok
          have hputB := put_of hBok
          rw [hXB] at hXBt hputB
          obtain ⟨kb, hkb⟩ : ∃ kb, XB.length = kb := ⟨_, rfl⟩
          have HKb := Lib.hid hkb
          have hkb1 : kb ≤ 1000 := by rw [← hkb]; exact hXBt.len
          have HXBt := Lib.hid hXBt
          have HXB := Lib.hid hXB
          have CPB : Hid (∀ W, Below w.heap.size w W → Calls Tryd.prog 10 #[.slice ao n ca, .string S, .slice none 0 0] W (PutPost (XB, 0) W)) := Lib.hid (fun W hW => by
            have := Arg.put (p := src) (HE.out.below hW) (HA.out.below hW) (Arg.nil W) HSl.out
            rw [HN.out, HSt.out, hputB] at this
            exact this)
          have CPA : Hid (∀ W a c, Below w.heap.size w W → Arg W a c V → Calls Tryd.prog 10 #[.slice ao n ca, .string D, .slice a kv c] W (PutPost (putL ts dst V) W)) := Lib.hid (fun W a c hW h => by
            have := Arg.put (p := dst) (HE.out.below hW) (HA.out.below hW) h HDl.out
            rw [HN.out, HDt.out, HKv.out] at this
            exact this)
          have HTr := Lib.hid hTr
          have HSp := Lib.hid hsp
          clear k0 hV0 ht hsp s0 hTr hBok hvv hXBt hputB hkb hXB
          go_enter Tryd.func7, Tryd.ntmps7
          repeat (first
            | (go_at_call 8; refine (CA.out _ (Below.refl _ _)).mono ?_; rintro r w1 ⟨rfl, hb⟩; simp only []; have B1 := Lib.hid hb; clear hb)
            | (go_at_call 19; fail) | go_skip | go_guarded | go_step | go_upon)
          refine (CAt.out _ B1.out).mono ?_
          rintro r w2 ⟨u, rfl, ho, hb⟩
          simp only []
          have B2 := Lib.hid (Below.trans B1.out (hb.mono B1.out.size))
          rw [HKv.out] at ho
          obtain ⟨a2, c2, rfl, _⟩ := owns_view ho
          have HV2 := Lib.hid (arg_own ho HKv.out HVs.out (by omega))
          clear hb ho
          repeat (first | (go_at_call 20; fail) | go_skip | go_guarded | go_step | go_upon)
          refine (CW1.out _).mono ?_
          rintro r w3 ⟨rfl, hb⟩
          simp only []
          have B3 := Lib.hid (Below.trans B2.out (hb.mono B2.out.size))
          have HV3 := Lib.hid (HV2.out.below hb)
          clear hb
          repeat (first
            | (go_at_call 20; refine (CW2.out _).mono ?_; rintro r w4 ⟨rfl, hb⟩; simp only []; have B4 := Lib.hid (Below.trans B3.out (hb.mono B3.out.size)); have HV4 := Lib.hid (HV3.out.below hb); clear hb)
            | (go_at_call 10; fail) | go_skip | go_guarded | go_step | go_upon)
          have cpa := CPA.out w4 a2 c2 B4.out HV4.out
          rcases put_cases ts dst V with ⟨hok, hput⟩ | ⟨e, hput⟩
          · obtain ⟨hm1, hm2, hmeq, hmat⟩ := moved hok HSp.out HB1.out HB2.out
            have hXAt := out_tree hok
            obtain ⟨XA, hXA⟩ : ∃ X, outL ts dst V = X := ⟨_, rfl⟩
            rw [hXA] at hm1 hmeq hmat hXAt hput
            rw [HXB.out] at hm2 hmeq
            have hC1 := put_of hm1
            have hC2 := put_of hm2
            have hCt := out_tree hm1
            have hCv := at_put hm2
            rw [← hmeq] at hC2 hCv
            obtain ⟨C, hC⟩ : ∃ C, outL XA src [] = C := ⟨_, rfl⟩
            rw [hC] at hC1 hC2 hCt hmat hCv
            rw [hput] at cpa
            obtain ⟨ka, hka⟩ : ∃ ka, XA.length = ka := ⟨_, rfl⟩
            obtain ⟨kc, hkc⟩ : ∃ kc, C.length = kc := ⟨_, rfl⟩
            have HKa := Lib.hid hka
            have HKc := Lib.hid hkc
            have hka1 : ka ≤ 1000 := by rw [← hka]; exact hXAt.len
            have hkc1 : kc ≤ 1000 := by rw [← hkc]; exact hCt.len
            have HXAt := Lib.hid hXAt
            have HCt := Lib.hid hCt
            have HC1 := Lib.hid hC1
            have HC2 := Lib.hid hC2
            have HMat := Lib.hid hmat
            have HCv := Lib.hid hCv
            refine cpa.mono ?_
            clear hok hput hm1 hm2 hmeq hmat hXAt hXA hC1 hC2 hCt hCv hC hka hkc cpa
            rintro r w5 ⟨u, rfl, ho, hb⟩
            simp only []
            have B5 := Lib.hid (Below.trans B4.out (hb.mono B4.out.size))
            have HV5 := Lib.hid (HV4.out.below hb)
            simp only [HKa.out] at ho
            obtain ⟨a5, c5, rfl, _⟩ := owns_view ho
            have HA5 := Lib.hid (arg_own ho HKa.out (small_tree HXAt.out) (by omega))
            clear hb ho
            repeat (first | (go_at_call 10; fail) | go_skip | go_guarded | go_step | go_upon)
            refine (CPB.out _ B5.out).mono ?_
            rintro r w6 ⟨u, rfl, ho, hb⟩
            simp only []
            have B6 := Lib.hid (Below.trans B5.out (hb.mono B5.out.size))
            have HV6 := Lib.hid (HV5.out.below hb)
            have HA6 := Lib.hid (HA5.out.below hb)
            simp only [HKb.out] at ho
            obtain ⟨a6, c6, rfl, _⟩ := owns_view ho
            have HB6 := Lib.hid (arg_own ho HKb.out (small_tree HXBt.out) (by omega))
            have cpc := Arg.put (p := src) (HE.out.below B6.out) HA6.out (Arg.nil w6) HSl.out
            rw [HKa.out, HSt.out, HC1.out] at cpc
            have CPc := Lib.hid cpc
            clear hb ho cpc
            repeat (first | (go_at_call 10; fail) | go_skip | go_guarded | go_step | go_upon)
            refine CPc.out.mono ?_
            rintro r w7 ⟨u, rfl, ho, hb⟩
            simp only []
            have B7 := Lib.hid (Below.trans B6.out (hb.mono B6.out.size))
            have HV7 := Lib.hid (HV6.out.below hb)
            have HB7 := Lib.hid (HB6.out.below hb)
            simp only [HKc.out] at ho
            obtain ⟨a7, c7, rfl, _⟩ := owns_view ho
            have HC7 := Lib.hid (arg_own ho HKc.out (small_tree HCt.out) (by omega))
            have cpd := Arg.put (p := dst) (HE.out.below B7.out) HB7.out HV7.out HDl.out
            rw [HKb.out, HDt.out, HKv.out, HC2.out] at cpd
            have CPd := Lib.hid cpd
            clear hb ho cpd
            repeat (first | (go_at_call 10; fail) | go_skip | go_guarded | go_step | go_upon)
            refine CPd.out.mono ?_
            rintro r w8 ⟨u, rfl, ho, hb⟩
            simp only []
            have B8 := Lib.hid (Below.trans B7.out (hb.mono B7.out.size))
            have HV8 := Lib.hid (HV7.out.below hb)
            have HC8 := Lib.hid (HC7.out.below hb)
            simp only [HKc.out] at ho
            obtain ⟨a8, c8, rfl, _⟩ := owns_view ho
            have HD8 := Lib.hid (arg_own ho HKc.out (small_tree HCt.out) (by omega))
            have cs := Arg.same HC8.out HD8.out
            rw [HKc.out, decide_eq_true (rfl : C = C)] at cs
            have CSc := Lib.hid cs
            clear hb ho cs
            repeat (first
              | (go_at_call 14; refine CSc.out.mono ?_; rintro r w9 ⟨rfl, hb⟩; simp only []; have B9 := Lib.hid (Below.trans B8.out (hb.mono B8.out.size)); have HV9 := Lib.hid (HV8.out.below hb); have HC9 := Lib.hid (HC8.out.below hb); clear hb)
              | (go_at_call 19; fail) | go_skip | go_guarded | go_step | go_upon)
            have cat1 := HC9.out.at (p := src) (HE.out.below B9.out) HSl.out
            rw [HKc.out, HSt.out, HMat.out] at cat1
            refine cat1.mono ?_
            clear cat1
            rintro r wa ⟨u, rfl, ho, hb⟩
            simp only []
            have Ba := Lib.hid (Below.trans B9.out (hb.mono B9.out.size))
            have HVa := Lib.hid (HV9.out.below hb)
            have HCa := Lib.hid (HC9.out.below hb)
            simp only [List.length_nil] at ho
            obtain ⟨aa, cc, rfl, _⟩ := owns_view ho
            clear hb ho
            repeat (first | (go_at_call 19; fail) | go_skip | go_guarded | go_step | go_upon)
            have cat2 := HCa.out.at (p := dst) (HE.out.below Ba.out) HDl.out
            rw [HKc.out, HDt.out, HCv.out] at cat2
            refine cat2.mono ?_
            clear cat2
            rintro r wb ⟨u, rfl, ho, hb⟩
            simp only []
            have Bb := Lib.hid (Below.trans Ba.out (hb.mono Ba.out.size))
            have HVb := Lib.hid (HVa.out.below hb)
            rw [HKv.out] at ho
            obtain ⟨ab, c_b, rfl, _⟩ := owns_view ho
            have cs := Arg.same (arg_own ho HKv.out HVs.out (by omega)) HVb.out
            rw [HKv.out, decide_eq_true (rfl : V = V)] at cs
            have CSd := Lib.hid cs
            clear hb ho cs
            repeat (first
              | (go_at_call 14; refine CSd.out.mono ?_; rintro r wc ⟨rfl, hb⟩; simp only []; have Bc := Lib.hid (Below.trans Bb.out (hb.mono Bb.out.size)); clear hb)
              | go_skip | go_guarded | go_step | go_upon)
            go_ret
            exact ⟨rfl, Bc.out⟩
          · rw [hput] at cpa
            have hez : (((e + 1 : Nat) : Int) != 0) = true := by simp; omega
            refine cpa.mono ?_
            obtain ⟨EE, hEE⟩ : ∃ EE, e + 1 = EE := ⟨_, rfl⟩
            rw [hEE] at hez ⊢
            clear hput cpa hEE
            rintro r w5 ⟨u, rfl, ho, hb⟩
            simp only []
            have B5 := Lib.hid (Below.trans B4.out (hb.mono B4.out.size))
            obtain ⟨a5, c5, rfl, _⟩ := owns_view ho
            clear hb ho
            repeat (first | (go_at_call 10; fail) | go_skip | go_guarded | go_step | go_upon)
            refine (CPB.out _ B5.out).mono ?_
            rintro r w6 ⟨u, rfl, ho, hb⟩
            simp only []
            have B6 := Lib.hid (Below.trans B5.out (hb.mono B5.out.size))
            obtain ⟨a6, c6, rfl, _⟩ := owns_view ho
            clear hb ho
            repeat (first | go_skip | go_guarded | go_step | go_upon)
            go_ret
            exact ⟨by simp [hez], B6.out⟩
end TL
end Go.Proofs.YtlofdhnghidcnaaDoor
