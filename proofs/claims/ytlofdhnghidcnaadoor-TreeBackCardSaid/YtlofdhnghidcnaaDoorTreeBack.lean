/- Layer 6: the walk of TreeBack. -/
import Derived.Test.YtlofdhnghidcnaaDoorTreePairs
namespace Go.Proofs.YtlofdhnghidcnaaDoor
open Go.RowKit Go.Lib Go.BigFrame
namespace TL
open OM TP TM TR TG

theorem small_right {n : Nd} (h : rightB n = true) : n.data.length ≤ 1048576 := by
  unfold rightB at h
  split at h
  · simp only [Bool.and_eq_true, decide_eq_true_eq] at h; omega
  · split at h
    · simp only [Bool.and_eq_true, decide_eq_true_eq] at h; rw [h.1]; simp
    · split at h
      · simp only [Bool.and_eq_true, decide_eq_true_eq] at h; omega
      · cases h
theorem small_path {q : List UInt8} (h : NP.pathL q = true) : q.length ≤ 1048576 := by have := ((path_iff q).1 h).1; omega
theorem small_tree {t : List Nd} (h : Tree t) : SmallG t := fun n hn => ⟨small_path (h.path n hn), small_right (h.right n hn)⟩
theorem small_val {v : List Nd} (h : Val v) : SmallG v := fun n hn => ⟨by
  rcases h.path n hn with e | e
  · rw [e]; simp
  · exact small_path e, small_right (h.right n hn)⟩
theorem arg_own {W : World} {B n c : Nat} {a : Option Addr} {xs : List Nd} (h : W.ownsRow B 32 4 (.slice a n c) n (nodesC xs)) (hn : xs.length = n) (hs : SmallG xs) (hl : n ≤ 1048576) : Arg W a c xs := by
  subst hn
  refine ⟨?_, fun e => ?_, own_cap h, hs, hl⟩
  · obtain ⟨a', c', e, hlay⟩ := lay_own h
    simp only [Value.slice.injEq, true_and] at e
    rw [e.1]
    exact hlay
  · subst e
    exact own_nil h
theorem Arg.at {w : World} {ao : Option Addr} {ca : Nat} {ts : List Nd} {p : List UInt8} (he : NF.Env w) (h : Arg w ao ca ts) (hp : p.length ≤ 1048576) :
    Calls Tryd.prog 19 #[.slice ao ts.length ca, txt p] w (AtPost (atL ts p) w) := at_any ao ca ts p w he h.lay h.small h.max h.cap hp
theorem diff_path {t x : List Nd} (ht : Tree t) (hx : Tree x) : ∀ q ∈ diffM t x, NP.pathL q = true := fun q hq => by
  rcases diffM_mem ht.sorted hx.sorted q hq with ⟨n, hn, rfl, _⟩ | ⟨n, hn, rfl, _⟩
  · exact ht.path n hn
  · exact hx.path n hn
theorem rwithin_txt (S T : ByteArray) (p q : List UInt8) (w : World) (hS : S.data.toList = p) (hT : T.data.toList = q) (h1 : p.length ≤ 1048576) (h2 : q.length ≤ 1048576) :
    Calls Tryd.prog 20 #[.string S, .string T] w fun e w' => e = .returned (.bool (NP.withinL p q)) ∧ Below w.heap.size w w' := by
  subst hS hT
  exact R1.RO.rwithin_any S T w (by rw [Lib.size_eq]; exact h1) (by rw [Lib.size_eq]; exact h2)
set_option maxRecDepth 100000 in
set_option maxHeartbeats 6400000 in
theorem back_any (ao bo : Option Addr) (ca cb : Nat) (ts v : List Nd) (p : List UInt8) (w : World) (he : NF.Env w) (hA : Arg w ao ca ts) (hB : Arg w bo cb v) (hp : p.length ≤ 1048576) :
    Calls Tryd.prog 5 #[.slice ao ts.length ca, txt p, .slice bo v.length cb] w fun e w' => e = .returned (.bool true) ∧ Below w.heap.size w w' := by
  have CA : Hid (∀ W, Below w.heap.size w W → Calls Tryd.prog 8 #[] W fun e w' => e = .returned (.bool true) ∧ Below W.heap.size W w') := Lib.hid (fun W hW => awake_any W (he.below hW))
  have cP := fun W (hW : Below w.heap.size w W) => Arg.put (p := p) (he.below hW) (hA.below hW) (hB.below hW) hp
  have HE := Lib.hid he
  have HA := Lib.hid hA
  have HB := Lib.hid hB
  have HPl := Lib.hid hp
  unfold PutPost at cP
  obtain ⟨S, hS, hSd⟩ := txt_of p
  have HSt := Lib.hid hS
  have HSd := Lib.hid hSd
  obtain ⟨n, hn⟩ : ∃ n, ts.length = n := ⟨_, rfl⟩
  obtain ⟨m, hm⟩ : ∃ m, v.length = m := ⟨_, rfl⟩
  have HN := Lib.hid hn
  have HM := Lib.hid hm
  rcases put_cases ts p v with ⟨hok, hput⟩ | ⟨e, hput⟩
  · have hX := out_tree hok
    obtain ⟨X, hXe⟩ : ∃ X, outL ts p v = X := ⟨_, rfl⟩
    have HXo := Lib.hid hXe
    rw [hput, hXe] at cP
    simp only at cP
    rw [hXe] at hX
    obtain ⟨k, hk⟩ : ∃ k, X.length = k := ⟨_, rfl⟩
    have HK := Lib.hid hk
    have hk1 : k ≤ 1000 := by rw [← hk]; exact hX.len
    have HOk := Lib.hid hok
    have HX := Lib.hid hX
    rw [hn, hm, hS, hk] at cP
    rw [hn, hm, hS]
    have CP := Lib.hid cP
    have HTs := Lib.hid ((tree_iff ts).2 hok.tree)
    have HTX := Lib.hid ((tree_iff X).2 hX)
    obtain ⟨V, hV⟩ : ∃ V, atL ts p = V := ⟨_, rfl⟩
    obtain ⟨kv, hkv⟩ : ∃ kv, V.length = kv := ⟨_, rfl⟩
    have HVe := Lib.hid hV
    have HKv := Lib.hid hkv
    have hVv : Val V := by rw [← hV]; exact at_val hok.tree hok.path
    have HVv := Lib.hid hVv
    have hkv1 : kv ≤ 1000 := by rw [← hkv]; exact val_len ((val_iff V).2 hVv)
    have hn1 : n ≤ 1000 := by rw [← hn]; exact hok.tree.len
    clear he hA hB hp cP hput hXe hX hok hn hm hk hS hSd hV hkv hVv
    go_enter Tryd.func5, Tryd.ntmps5
    repeat (first
      | (go_at_call 8; refine (CA.out _ (Below.refl _ _)).mono ?_; rintro r w1 ⟨rfl, hb⟩; simp only []; have B1 := Lib.hid hb; clear hb)
      | (go_at_call 10; fail) | go_skip | go_guarded | go_step | go_upon)
    refine (CP.out _ B1.out).mono ?_
    rintro r w2 ⟨u, rfl, ho, hb⟩
    simp only []
    have B2 := Lib.hid (Below.trans B1.out (hb.mono B1.out.size))
    obtain ⟨ax, cx, rfl, _⟩ := owns_view ho
    have hAx := arg_own ho HK.out (small_tree HX.out) (by omega)
    have HAx := Lib.hid hAx
    have CC : Hid (∀ W, Below w2.heap.size w2 W → Calls Tryd.prog 18 #[.slice ax k cx] W fun r w' => r = .returned (.int .i64 0) ∧ Below W.heap.size W w') := Lib.hid (fun W hW => by
      have := (HAx.out.below hW).check (HE.out.below (Below.trans B2.out (hW.mono B2.out.size)))
      rw [HK.out, check_yes HTX.out] at this
      exact this)
    have CAx : Hid (∀ W, Below w2.heap.size w2 W → Calls Tryd.prog 19 #[.slice ax k cx, .string S] W (AtPost v W)) := Lib.hid (fun W hW => by
      have := (HAx.out.below hW).at (p := p) (HE.out.below (Below.trans B2.out (hW.mono B2.out.size))) HPl.out
      rw [HK.out, HSt.out, ← HXo.out, at_put HOk.out] at this
      exact this)
    have CDf : Hid (∀ W, Below w2.heap.size w2 W → Calls Tryd.prog 16 #[.slice ao n ca, .slice ax k cx] W (DiffPost ts X W)) := Lib.hid (fun W hW => by
      have := Arg.differ (HE.out.below (Below.trans B2.out (hW.mono B2.out.size))) (HA.out.below (Below.trans B2.out (hW.mono B2.out.size))) (HAx.out.below hW)
      rw [HN.out, HK.out] at this
      exact this)
    have CAt : Hid (∀ W, Below w.heap.size w W → Calls Tryd.prog 19 #[.slice ao n ca, .string S] W (AtPost V W)) := Lib.hid (fun W hW => by
      have := (HA.out.below hW).at (p := p) (HE.out.below hW) HPl.out
      rw [HN.out, HSt.out, HVe.out] at this
      exact this)
    have CPy : Hid (∀ W a c, Below w.heap.size w W → Arg W a c V → Calls Tryd.prog 10 #[.slice ao n ca, .string S, .slice a kv c] W (PutPost (ts, 0) W)) := Lib.hid (fun W a c hW h => by
      have := Arg.put (p := p) (HE.out.below hW) (HA.out.below hW) h HPl.out
      rw [HN.out, HSt.out, HKv.out, ← HVe.out, put_at HOk.out.tree HOk.out.path] at this
      exact this)
    have CPz : Hid (∀ W a c, Below w2.heap.size w2 W → Arg W a c V → Calls Tryd.prog 10 #[.slice ax k cx, .string S, .slice a kv c] W (PutPost (ts, 0) W)) := Lib.hid (fun W a c hW h => by
      have := Arg.put (p := p) (HE.out.below (Below.trans B2.out (hW.mono B2.out.size))) (HAx.out.below hW) h HPl.out
      rw [HK.out, HSt.out, HKv.out, ← HXo.out, ← HVe.out, put_restore HOk.out] at this
      exact this)
    have CSv : Hid (∀ W a c, Below w.heap.size w W → Arg W a c v → Calls Tryd.prog 14 #[.slice a m c, .slice bo m cb] W fun r w' => r = .returned (.bool true) ∧ Below W.heap.size W w') := Lib.hid (fun W a c hW h => by
      have := Arg.same h (HB.out.below hW)
      rw [HM.out, decide_eq_true (rfl : v = v)] at this
      exact this)
    have CSt : Hid (∀ W a c, Below w.heap.size w W → Arg W a c ts → Calls Tryd.prog 14 #[.slice a n c, .slice ao n ca] W fun r w' => r = .returned (.bool true) ∧ Below W.heap.size W w') := Lib.hid (fun W a c hW h => by
      have := Arg.same h (HA.out.below hW)
      rw [HN.out, decide_eq_true (rfl : ts = ts)] at this
      exact this)
    clear hb ho hAx CP
    repeat (first
      | (go_at_call 18; refine (CC.out _ (Below.refl _ _)).mono ?_; rintro r w3 ⟨rfl, hb⟩; simp only []; have W3 := Lib.hid hb; have B3 := Lib.hid (Below.trans B2.out (hb.mono B2.out.size)); clear hb)
      | (go_at_call 19; fail) | go_skip | go_guarded | go_step | go_upon)
    refine (CAx.out _ W3.out).mono ?_
    rintro r w4 ⟨u, rfl, ho, hb⟩
    simp only []
    have W4 := Lib.hid (Below.trans W3.out (hb.mono W3.out.size))
    have B4 := Lib.hid (Below.trans B3.out (hb.mono B3.out.size))
    rw [HM.out] at ho
    obtain ⟨a2, c2, rfl, _⟩ := owns_view ho
    have CS4 := Lib.hid (CSv.out w4 a2 c2 B4.out (arg_own ho HM.out HB.out.small (by rw [← HM.out]; exact HB.out.len)))
    clear hb ho
    repeat (first
      | (go_at_call 14; refine CS4.out.mono ?_; rintro r w5 ⟨rfl, hb⟩; simp only []; have W5 := Lib.hid (Below.trans W4.out (hb.mono W4.out.size)); have B5 := Lib.hid (Below.trans B4.out (hb.mono B4.out.size)); clear hb)
      | (go_at_call 16; fail) | go_skip | go_guarded | go_step | go_upon)
    refine (CDf.out _ W5.out).mono ?_
    rintro r w6 ⟨u, rfl, ho, hb⟩
    simp only []
    have W6 := Lib.hid (Below.trans W5.out (hb.mono W5.out.size))
    have B6 := Lib.hid (Below.trans B5.out (hb.mono B5.out.size))
    obtain ⟨aL, cL, rfl, hlay⟩ := lays_of ho
    have HLy := Lib.hid hlay
    obtain ⟨L, hL⟩ : ∃ L, differL ts X = L := ⟨_, rfl⟩
    rw [hL] at HLy
    have hLw : ∀ q ∈ L, NP.withinL q p = true ∧ NP.pathL q = true := fun q hq => by
      have hd : differL ts X = diffM ts X := by unfold differL; rw [if_pos ⟨HTs.out, HTX.out⟩]
      rw [← hL, hd] at hq
      have h1 := diff_put HOk.out q (by rw [HXo.out]; exact hq)
      exact ⟨h1, within_path h1⟩
    have HLw := Lib.hid hLw
    have hll : L.length ≤ 2000 := by rw [← hL]; have := differ_len ts X; have := HN.out; have := HK.out; omega
    obtain ⟨l, hl⟩ : ∃ l, L.length = l := ⟨_, rfl⟩
    have HLl := Lib.hid hl
    rw [hL, hl]
    rw [hl] at hll
    have hlz : (l : Int) ≤ 2000 := by omega
    clear hb ho hlay hL hl hLw
    repeat (first | go_skip | go_guarded | go_step | go_upon)
    go_loopw [44] (fun s44 wr => ∃ i : Nat, s44 = .int .i64 i ∧ i ≤ l ∧ Below w6.heap.size w6 wr) (fun s44 _ => l - (Go.RowKit.intOf s44).toNat)
    case atStart => exact ⟨0, rfl, Nat.zero_le _, Below.refl _ _⟩
    case round =>
      obtain ⟨i, rfl, hi, hb⟩ := hrel
      have HBr := Lib.hid hb
      have hbs := hb.size
      by_cases hlt : i < l
      · have hiz : (i : Int) < l := by omega
        obtain ⟨g, o, rfl, hg, hcell⟩ := (HLy.out.below hb) (by rw [HLl.out]; omega)
        obtain ⟨q, hq⟩ : ∃ q, L[i]? = some q := ⟨L[i]'(by rw [HLl.out]; exact hlt), List.getElem?_eq_getElem _⟩
        have c0 := hcell i q hq
        obtain ⟨Q, hQ, hQd⟩ := txt_of q
        rw [hQ] at c0
        obtain ⟨h1, h2⟩ := HLw.out q (List.mem_of_getElem? hq)
        have cw := rwithin_txt Q S q p wr hQd HSd.out (small_path h2) HPl.out
        rw [h1] at cw
        have CW := Lib.hid cw
        clear hb hcell hq hQ hQd h1 h2 cw hlt
        repeat (first
          | (go_at_call 20; refine CW.out.mono ?_; rintro r w7 ⟨rfl, hb⟩; simp only []; have W7 := Lib.hid (Below.trans HBr.out (hb.mono hbs)); clear hb)
          | go_skip | go_guarded | go_step | go_upon)
        exact ⟨⟨i + 1, by go_num, by omega, W7.out⟩, by simp [Go.RowKit.intOf]; omega⟩
      · have hiz : ¬ (i : Int) < l := by omega
        have B7 := Lib.hid (Below.trans B6.out (hb.mono B6.out.size))
        have W7 := Lib.hid (Below.trans W6.out (hb.mono W6.out.size))
        clear hb hlt
        repeat (first | (go_at_call 19; fail) | go_skip | go_guarded | go_step | go_upon)
        refine (CAt.out _ B7.out).mono ?_
        rintro r w8 ⟨u, rfl, ho, hb⟩
        simp only []
        have W8 := Lib.hid (Below.trans W7.out (hb.mono W7.out.size))
        have B8 := Lib.hid (Below.trans B7.out (hb.mono B7.out.size))
        rw [HKv.out] at ho
        obtain ⟨a8, c8, rfl, _⟩ := owns_view ho
        have CP8 := Lib.hid (CPy.out w8 a8 c8 B8.out (arg_own ho HKv.out (small_val HVv.out) (by omega)))
        clear hb ho
        repeat (first | (go_at_call 10; fail) | go_skip | go_guarded | go_step | go_upon)
        refine CP8.out.mono ?_
        rintro r w9 ⟨u, rfl, ho, hb⟩
        simp only []
        have W9 := Lib.hid (Below.trans W8.out (hb.mono W8.out.size))
        have B9 := Lib.hid (Below.trans B8.out (hb.mono B8.out.size))
        simp only [HN.out] at ho
        obtain ⟨a9, c9, rfl, _⟩ := owns_view ho
        have HY := Lib.hid (arg_own ho HN.out HA.out.small (by omega))
        clear hb ho
        repeat (first | (go_at_call 19; fail) | go_skip | go_guarded | go_step | go_upon)
        refine (CAt.out _ B9.out).mono ?_
        rintro r wa ⟨u, rfl, ho, hb⟩
        simp only []
        have Wa := Lib.hid (Below.trans W9.out (hb.mono W9.out.size))
        have Ba := Lib.hid (Below.trans B9.out (hb.mono B9.out.size))
        have HYa := Lib.hid (HY.out.below hb)
        rw [HKv.out] at ho
        obtain ⟨aa, cc, rfl, _⟩ := owns_view ho
        have CPa := Lib.hid (CPz.out wa aa cc Wa.out (arg_own ho HKv.out (small_val HVv.out) (by omega)))
        clear hb ho
        repeat (first | (go_at_call 10; fail) | go_skip | go_guarded | go_step | go_upon)
        refine CPa.out.mono ?_
        rintro r wb ⟨u, rfl, ho, hb⟩
        simp only []
        have Bb := Lib.hid (Below.trans Ba.out (hb.mono Ba.out.size))
        have HYb := Lib.hid (HYa.out.below hb)
        simp only [HN.out] at ho
        obtain ⟨ab, c_b, rfl, _⟩ := owns_view ho
        have HZ := Lib.hid (arg_own ho HN.out HA.out.small (by omega))
        clear hb ho
        repeat (first
          | (go_at_call_of 14 (Value.slice a9 n c9); refine (CSt.out _ _ _ Bb.out HYb.out).mono ?_; rintro r wc ⟨rfl, hb⟩; simp only []; have Bc := Lib.hid (Below.trans Bb.out (hb.mono Bb.out.size)); have HZc := Lib.hid (HZ.out.below hb); clear hb)
          | (go_at_call_of 14 (Value.slice ab n c_b); refine (CSt.out _ _ _ Bc.out HZc.out).mono ?_; rintro r wd ⟨rfl, hb⟩; simp only []; have Bd := Lib.hid (Below.trans Bc.out (hb.mono Bc.out.size)); clear hb)
          | go_skip | go_guarded | go_step | go_upon)
        go_ret
        exact ⟨rfl, Bd.out⟩
  · rw [hput] at cP
    simp only at cP
    rw [hn, hm, hS] at cP
    rw [hn, hm, hS]
    have CP := Lib.hid cP
    have hez : (((e + 1 : Nat) : Int) != 0) = true := by simp; omega
    obtain ⟨E, hE⟩ : ∃ E, e + 1 = E := ⟨_, rfl⟩
    rw [hE] at CP hez
    clear he hA hB hp cP hput hn hm hS hSd hE
    go_enter Tryd.func5, Tryd.ntmps5
    repeat (first
      | (go_at_call 8; refine (CA.out _ (Below.refl _ _)).mono ?_; rintro r w1 ⟨rfl, hb⟩; simp only []; have B1 := Lib.hid hb; clear hb)
      | (go_at_call 10; fail) | go_skip | go_guarded | go_step | go_upon)
    refine (CP.out _ B1.out).mono ?_
    rintro r w2 ⟨u, rfl, ho, hb⟩
    simp only []
    have B2 := Lib.hid (Below.trans B1.out (hb.mono B1.out.size))
    obtain ⟨ax, cx, rfl, _⟩ := owns_view ho
    clear hb ho CP
    repeat (first | go_skip | go_guarded | go_step | go_upon)
    go_ret
    exact ⟨rfl, B2.out⟩
end TL
end Go.Proofs.YtlofdhnghidcnaaDoor
