/- Layer 14: the maker goes through the whole text: tellAll. -/
import Derived.Test.YtmpmmebmhffaeaaDoorQDlCopy
set_option linter.all false
set_option maxRecDepth 100000
set_option maxHeartbeats 25600000
namespace Go.Proofs.YtmpmmebmhffaeaaDoor
open Go.RowKit Go.Lib Go.BigFrame Go.Maps
namespace DM
open OM DL HP HS

theorem MkAt.window {B b1 b2 : Nat} {s : ByteArray} {sz f u k told f' u' k' : Nat} {v : Value} {W W' : World} (h : MkAt B b1 b2 s sz f u k told v W) (hw : WinAt B s sz f' u' k' W') (ho : WOut B W W') (hk : ∃ cs z, W'.heap[B]? = some (Obj.cells cs 67 z)) : MkAt B b1 b2 s sz f' u' k' told v W' :=
  ⟨hw, (ho.rest 5 (by decide)).trans h.c5, (ho.rest 6 (by decide)).trans h.c6, (ho.rest 7 (by decide)).trans h.c7, (ho.rest 8 (by decide)).trans h.c8, hk⟩
theorem WOut.keep {B : Nat} {W W' : World} (h : WOut B W W') (hk : ∃ cs t z, W.heap[B]? = some (Obj.cells cs t z)) : MKeep W W' := MKeep.outC h.out (fun j hj => by rw [hj]; exact hk)
theorem drop_ext {s : ByteArray} {f sz : Nat} : (s.extract f (min (f + sz) s.size)).data.toList = (s.data.toList.drop f).take sz := by
  have hl := size_data s
  rw [take_of3]
  rcases Nat.le_total (f + sz) s.size with h | h
  · rw [Nat.min_eq_left h, Nat.add_sub_cancel_left]
  · rw [Nat.min_eq_right h, List.take_of_length_le (by rw [List.length_drop]; omega), List.take_of_length_le (by rw [List.length_drop]; omega)]
theorem drop_min {s : ByteArray} {f sz : Nat} : s.data.toList.drop (min (f + sz) s.size) = (s.data.toList.drop f).drop sz := by
  have hl := size_data s
  rw [List.drop_drop]
  rcases Nat.le_total (f + sz) s.size with h | h
  · rw [Nat.min_eq_left h]
  · rw [Nat.min_eq_right h, List.drop_eq_nil_of_le (by omega), List.drop_eq_nil_of_le (by omega)]
theorem drop_cons {s : ByteArray} {f : Nat} (h : f < s.size) : s.data.toList.drop f = s.data.toList.getD f 0 :: s.data.toList.drop (f + 1) := by
  have hl := size_data s
  rw [List.drop_eq_getElem_cons (by omega), List.getD_eq_getElem?_getD, List.getElem?_eq_getElem (by omega)]
  rfl
theorem addC_len (O : List Stp) (i : Int) : (addC O i).length ≤ O.length + 1 := by
  unfold addC
  cases h : O.getLast? with
  | none => simp
  | some x =>
    simp only
    split
    · simp <;> omega
    · simp
theorem pend_len (O : List Stp) (u : List UInt8) : (pend O u).length ≤ O.length + 1 := by
  unfold pend
  split
  · omega
  · simp
theorem MkAt.roll {B b1 b2 : Nat} {s : ByteArray} {sz f u k told f' u' k' : Nat} {v : Value} {W W' : World} (h : MkAt B b1 b2 s sz f u k told v W) (hw : WinAt B s sz f' u' k' W') (ho : WOut B W W') : MkAt B b1 b2 s sz f' u' k' told v W' :=
  h.window hw ho (by
    obtain ⟨cs, z, e⟩ := h.kind
    obtain ⟨cs', e'⟩ := ho.kind _ _ _ e
    exact ⟨cs', z, e'⟩)
/-- What holds ahead of each step of the way. -/
structure AInv (bs : List Bk) (s : ByteArray) (sz B b1 b2 n1 n2 base N : Nat) (R : List Stp) (w wr : World) (x f u told m : Nat) (O : List Stp) (a : Option Addr) (c : Nat) (fm : Value → Option Value) : Prop where
  mkr : MkAt B b1 b2 s sz f u (weakL (s.extract f u).data.toList) told (.slice a O.length c) wr
  own : wr.ownsRow base 46 3 (.slice a O.length c) O.length (opC O)
  hu : u = min (f + sz) s.size
  ht : told ≤ f
  hf : f ≤ s.size
  mw : MapW wr b1 m fm
  ok : LastOk bs fm
  mb : MapB wr b2 n2 (firstF bs)
  hm : m ≤ n1 + x
  no : NoText O
  inb : Within bs.length O
  len : O.length ≤ 2 * f
  res : goF bs sz (s.data.toList.drop f) (pend O (s.extract told f).data.toList) = R
  below : Below N w wr
section
variable {bs : List Bk} {s : ByteArray} {sz B b1 b2 n1 n2 base N : Nat} {R : List Stp} {w wr : World} {x f u told m : Nat} {O : List Stp} {a : Option Addr} {c : Nat} {fm : Value → Option Value}
theorem AInv.keep {W : World} (h : AInv bs s sz B b1 b2 n1 n2 base N R w wr x f u told m O a c fm) (hN : N ≤ B) (hb : Below wr.heap.size wr W) : AInv bs s sz B b1 b2 n1 n2 base N R w W x f u told m O a c fm :=
  { h with mkr := h.mkr.below hb, own := owns_below h.own hb, mw := h.mw.below hb, mb := h.mb.below hb, below := h.below.trans (hb.mono (Nat.le_trans hN (Nat.le_of_lt h.mkr.win.lt))) }
theorem map_ne {P : Program} {kt : TypeId} {W : World} {b n g : Nat} {cs : Array Value} {t : TypeId} {z : Nat × Nat} {f : Value → Option Value} (h : MapF P kt W b n f) (hg : W.heap[g]? = some (Obj.cells cs t z)) : g ≠ b := fun e => by
  obtain ⟨es, c, hm⟩ := h.kind
  rw [← e, hg] at hm
  cases hm
theorem AInv.found {W : World} {f' : Value → Option Value} (h : AInv bs s sz B b1 b2 n1 n2 base N R w wr x f u told m O a c fm) (hN1 : N ≤ b1) (hne : b1 ≠ b2) (hmw : MapW W b1 (m + 1) f') (hok : LastOk bs f') (ho : FP.Out (fun j => j = b1) wr W) : AInv bs s sz B b1 b2 n1 n2 base N R w W (x + 1) f u told (m + 1) O a c f' := by
  have hB : B ≠ b1 := by
    obtain ⟨cs, z, e⟩ := h.mkr.kind
    exact map_ne h.mw e
  exact { h with mkr := h.mkr.out ho hB, own := ho.owns h.own (fun g hg e => by
      obtain ⟨cs, fz, e2⟩ := owns_kind h.own g hg
      exact map_ne h.mw e2 e), mw := hmw, ok := hok, mb := h.mb.out ho (fun e => hne e.symm), hm := by have := h.hm; omega, below := h.below.trans (ho.below (fun k hk _ e => by omega) (by have := h.mw.lt; omega)) }
theorem AInv.rolled {W : World} (h : AInv bs s sz B b1 b2 n1 n2 base N R w wr x f u told m O a c fm) (hN : N ≤ B) (hz : 1 ≤ sz) (hlt : f < s.size) (hfb : findB bs (tellB (s.extract f u).data.toList) = none) (hw : WinAt B s sz (f + 1) (min (u + 1) s.size) (weakL (s.extract (f + 1) (min (u + 1) s.size)).data.toList) W) (ho : WOut B wr W) : AInv bs s sz B b1 b2 n1 n2 base N R w W x (f + 1) (min (u + 1) s.size) told m O a c fm := by
  obtain ⟨cs, z, e⟩ := h.mkr.kind
  have hk := ho.keep ⟨cs, _, z, e⟩
  refine { h with mkr := h.mkr.roll hw ho, own := ho.out.owns h.own (fun g hg e2 => h.mkr.apart h.own (by rw [hg, e2])), hu := ?_, ht := by have := h.ht; omega, hf := by omega, mw := hk.map h.mw, mb := hk.map h.mb, len := by have := h.len; omega, res := ?_, below := h.below.trans (ho.out.below (fun k hk _ e => by omega) (Nat.le_trans hN (Nat.le_of_lt h.mkr.win.lt))) }
  · have := h.hu
    omega
  · have hr := h.res
    rw [h.hu, drop_ext, drop_cons hlt] at hfb
    rw [drop_cons hlt, goF_none hfb, pend_text h.no, ← ext_snoc h.ht hlt] at hr
    exact hr
end
theorem pend_self (O : List Stp) (s : ByteArray) (u : Nat) : pend O (s.extract u u).data.toList = O := by
  unfold pend
  rw [if_pos (by rw [take_of3, Nat.sub_self]; rfl)]
theorem set_keep {B b1 b2 : Nat} {s : ByteArray} {sz f u k told : Nat} {v : Value} {W : World} (h : MkAt B b1 b2 s sz f u k told v W) (j : Nat) (x : Value) : MKeep W (W.setCell ⟨B, j, none⟩ x) := MKeep.outC ((FP.Out.refl (fun k => k = B) W).setCell (p := ⟨B, j, none⟩) (fun _ => rfl) _) (fun i hi => by
  obtain ⟨cs, z, e⟩ := h.kind
  rw [hi]
  exact ⟨cs, _, z, e⟩)
def aRead (B : Nat) (wr : World) : Nat := (Go.RowKit.intOf ((wr.cell? ⟨B, 2, none⟩).getD undef)).toNat
theorem aRead_is {B b1 b2 : Nat} {s : ByteArray} {sz f u k told : Nat} {v : Value} {W : World} (h : MkAt B b1 b2 s sz f u k told v W) : aRead B W = f := by
  unfold aRead
  rw [h.win.c2]
  simp [Go.RowKit.intOf]
set_option maxRecDepth 100000 in
set_option maxHeartbeats 12800000 in
theorem tellAll_any (bs : List Bk) (s : ByteArray) (sz B b1 b2 n1 n2 base N : Nat) (R : List Stp) (w : World) (u told m : Nat) (O : List Stp) (a : Option Addr) (c : Nat) (fm : Value → Option Value)
    (h0 : AInv bs s sz B b1 b2 n1 n2 base N R w w 0 0 u told m O a c fm) (hz1 : 1 ≤ sz) (hz2 : sz ≤ 65536) (hs : s.size ≤ 1048576) (hbs : bs.length ≤ 4194304) (hn1 : n1 ≤ 4194304) (hne : b1 ≠ b2) (hN : N ≤ B) (hNb : N ≤ base) (hN1 : N ≤ b1) (hb : base ≤ w.heap.size) (hNw : N ≤ w.heap.size) (hNE : ∀ W, Below N w W → HQ.Env W) :
    Calls Tryd.prog 24 #[ptr B] w fun r w' => ∃ a c, r = .returned (.tuple #[]) ∧ w'.cell? ⟨B, 7, none⟩ = some (.slice a R.length c) ∧ w'.ownsRow base 46 3 (.slice a R.length c) R.length (opC R) ∧ Below N w w' := by
  have HE := Lib.hid hNE
  have HI := Lib.hid h0
  clear h0 hNE
  go_enter Tryd.func24, Tryd.ntmps24
  repeat (first | go_skip | go_guarded | go_step | go_upon)
  go_loopw [2] (fun s2 wr => ∃ f u told m O a c fm, AInv bs s sz B b1 b2 n1 n2 base N R w wr f f u told m O a c fm) (fun s2 wr => s.size - aRead B wr)
  case atStart => exact ⟨0, u, told, m, O, a, c, fm, HI.out⟩
  case round =>
    clear HI
    obtain ⟨f, u, told, m, O, a, c, fm, hi⟩ := hrel
    have HI := Lib.hid hi
    have hf := hi.hf
    have HA : Hid (aRead B wr = f) := Lib.hid (aRead_is hi.mkr)
    have CO := Lib.hid (over_any B s sz f u _ wr hi.mkr.win)
    clear hi
    repeat (first | go_skip | go_guarded | go_step | go_upon)
    by_cases hlt : f < s.size
    · have hd : decide (f = s.size) = false := decide_eq_false (by omega)
      rw [hd] at CO
      refine CO.out.mono ?_
      rintro r w1 ⟨rfl, hb1⟩
      simp only []
      have H1 := Lib.hid (HI.out.keep hN hb1)
      clear hd CO hb1 HI
      repeat (first | go_skip | go_guarded | go_step | go_upon)
      have huf : f < u := by have := H1.out.hu; omega
      have hus : u ≤ s.size := by have := H1.out.hu; omega
      have CSh : Hid (∀ W, WinAt B s sz f u (weakL (s.extract f u).data.toList) W → Calls Tryd.prog 37 #[ptr B] W fun r w' => r = .returned (.string (s.extract f u)) ∧ Below W.heap.size W w') := Lib.hid (fun W hW => shown_any B s sz f u _ W hW (by omega) hus)
      have HX : Hid (1 ≤ (s.extract f u).size ∧ (s.extract f u).size ≤ 1048576) := Lib.hid (by
        rw [Lib.size_eq, ext_len hus]
        omega)
      have hmx : m < maxLen := by have := H1.out.hm; unfold maxLen; omega
      have CF : Hid (∀ W, AInv bs s sz B b1 b2 n1 n2 base N R w W f f u told m O a c fm → Calls Tryd.prog 36 #[.agg #[.map (some b1), .map (some b2)], .string (s.extract f u), .int .u32 (weakL (s.extract f u).data.toList : Nat)] W (FdPost bs (s.extract f u) b1 m W)) := Lib.hid (fun W hW => find_any bs _ b1 b2 m n2 fm W (HE.out W hW.below) hW.mw hW.ok hW.mb hne HX.out.1 HX.out.2 hmx)
      have CR : Hid (∀ W, WinAt B s sz f u (weakL (s.extract f u).data.toList) W → Calls Tryd.prog 38 #[ptr B] W fun r w' => r = .returned (.tuple #[]) ∧ WinAt B s sz (f + 1) (min (u + 1) s.size) (weakL (s.extract (f + 1) (min (u + 1) s.size)).data.toList) w' ∧ WOut B W w') := Lib.hid (fun W hW => roll_win B s sz f u W hW huf hus hs)
      refine wp_region_noPanic ?_
      with_reducible refine QT.region_mix (S := fun W' => AInv bs s sz B b1 b2 n1 n2 base N R w W' f f u told m O a c fm) [(true, 0), (true, 1), (true, 2), (true, 3), (true, 4), (true, 5), (true, 6), (true, 8), (true, 9), (true, 10), (true, 11), (true, 12), (false, 7)] 13 (by kernel_rfl) (by kernel_rfl) ?_ ?_ ?_
      · exact fun _ _ _ _ _ h => h
      · exact H1.out.keep hN (Below.refl _ _).drew
      intro _
      simp only [QT.pickM, List.filterMap_cons, List.filterMap_nil, List.getElem?_cons_succ, List.getElem?_cons_zero, Option.map_some, List.drop_succ_cons, List.drop_zero]
      iterate 12 (refine QT.wpMix_take _ (by rfl) (by intro w' hSw; obtain ⟨⟨c0, c1, c2, c3, c4, z, lt⟩, c5, c6, c7, c8, -⟩ := hSw.mkr; go_simp; first | done | rfl) ?_; try simp only [Act.put, List.setIfInBounds_toArray, List.set_cons_zero, List.set_cons_succ])
      intro K' hK
      rw [if_pos (by rfl)]
      go_simp
      refine (CSh.out _ (H1.out.keep hN (Below.refl _ _).drew).mkr.win).mono ?_
      rintro r w2 ⟨rfl, hb2⟩
      simp only []
      have H2 := Lib.hid (H1.out.keep hN ((Below.refl _ _).drew.trans hb2))
      refine hK.out _ _ H2.out ?_
      clear hK K' hb2 H1
      try simp only [Act.put, List.setIfInBounds_toArray, List.set_cons_zero, List.set_cons_succ]
      refine QT.wpMix_nil ?_
      have CF2 := Lib.hid (CF.out w2 H2.out)
      unfold FdPost at CF2
      clear CF CSh
      obtain ⟨fb, hfb⟩ : ∃ fb, findB bs (tellB (s.extract f u).data.toList) = fb := ⟨_, rfl⟩
      rw [hfb] at CF2
      have HFB := Lib.hid hfb
      obtain ⟨kw, hkw⟩ : ∃ kw, weakL (s.extract f u).data.toList = kw := ⟨_, rfl⟩
      have hkw2 := hkw
      rw [take_of3] at hkw2
      rw [hkw] at CF2
      rw [hkw2]
      obtain ⟨T, hT⟩ : ∃ T, s.extract f u = T := ⟨_, rfl⟩
      rw [hT] at CF2 ⊢
      clear hfb hkw hkw2 hT
      repeat (first | go_skip | go_guarded | go_step | go_upon)
      refine CF2.out.mono ?_
      rintro r w3 ⟨f', rfl, hmw, hok, hout⟩
      simp only []
      have H3 := Lib.hid (H2.out.found hN1 hne hmw hok hout)
      clear hmw hok hout H2 CF2
      repeat (first | go_skip | go_guarded | go_step | go_upon)
      refine NoPanic.normal ?_
      cases fb with
      | none =>
        have hq : (numB (none : Option Nat) == -1) = true := rfl
        repeat (first | go_skip | go_guarded | go_step | go_upon)
        refine (CR.out _ H3.out.mkr.win).mono ?_
        rintro r w4 ⟨rfl, hw4, ho4⟩
        simp only []
        have H4 := Lib.hid (H3.out.rolled hN hz1 hlt HFB.out hw4 ho4)
        have hA4 := aRead_is H4.out.mkr
        clear hw4 ho4
        repeat (first | go_skip | go_guarded | go_step | go_upon)
        exact ⟨⟨f + 1, _, told, m + 1, O, a, c, f', H4.out⟩, by rw [hA4, HA.out]; omega⟩
      | some i =>
        have hnb : numB (some i) = (i : Int) := rfl
        rw [hnb]
        have hq : ((i : Int) == -1) = false := by simp <;> omega
        have hil : i < bs.length := findB_lt HFB.out
        have hOl : O.length ≤ 2097152 := by have := H3.out.len; omega
        have CN := Lib.hid (tellNew_any B b1 b2 s sz f u _ told base N O a c w3 H3.out.mkr H3.out.own H3.out.ht (by omega) hs (by omega) hN hNb (Nat.le_trans hb H3.out.below.size))
        have HW1 := Lib.hid (within_pend H3.out.inb (s.extract told f).data.toList)
        have HL1 := Lib.hid (pend_len O (s.extract told f).data.toList)
        unfold MkPost at CN
        clear hnb CR
        repeat (first | go_skip | go_guarded | go_step | go_upon)
        refine CN.out.mono ?_
        rintro r w4 ⟨a4, c4, rfl, hmk4, hown4, hkeep4, hb4⟩
        simp only []
        have HM4 := Lib.hid hmk4
        have HO4 := Lib.hid hown4
        have HK4 := Lib.hid hkeep4
        have HB4 := Lib.hid (H3.out.below.trans hb4)
        clear hmk4 hown4 hkeep4 hb4 CN
        have CC := Lib.hid (tellCopy_any B b1 b2 s sz f u _ told base N bs.length i _ w4 a4 c4 HM4.out HO4.out HW1.out hil hbs (by have := HL1.out; omega) hN hNb (Nat.le_trans hb HB4.out.size))
        have HW2 := Lib.hid (within_addC HW1.out hil)
        have HL2 := Lib.hid (addC_len (pend O (s.extract told f).data.toList) i)
        unfold MkPost at CC
        repeat (first | go_skip | go_guarded | go_step | go_upon)
        refine CC.out.mono ?_
        rintro r w5 ⟨a5, c5, rfl, hmk5, hown5, hkeep5, hb5⟩
        simp only []
        have HM5 := Lib.hid hmk5
        have HO5 := Lib.hid hown5
        have HK5 := Lib.hid (HK4.out.trans hkeep5)
        have HB5 := Lib.hid (HB4.out.trans hb5)
        clear hmk5 hown5 hkeep5 hb5 CC HM4 HO4 HK4
        have CP := Lib.hid (pass_any B s sz f u _ w5 HM5.out.win hus hz2 hs)
        repeat (first | go_skip | go_guarded | go_step | go_upon)
        refine CP.out.mono ?_
        rintro r w6 ⟨rfl, hw6, ho6⟩
        simp only []
        have HM6 := Lib.hid (HM5.out.roll hw6 ho6)
        have HO6 := Lib.hid (ho6.out.owns HO5.out (fun g hg e2 => HM5.out.apart HO5.out (by rw [hg, e2])))
        have HK6 := Lib.hid (HK5.out.trans (ho6.keep (by
          obtain ⟨cs, z, e⟩ := HM5.out.kind
          exact ⟨cs, _, z, e⟩)))
        have HB6 := Lib.hid (HB5.out.trans (ho6.out.below (B := N) (fun k hk _ e => by omega) (Nat.le_trans hNw HB5.out.size)))
        clear hw6 ho6 CP
        obtain ⟨⟨d0, d1, d2, d3, d4, dz, dlt⟩, d5, d6, d7, d8, -⟩ := HM6.out
        have dz8 := dz 8
        clear dz d0 d1 d3 d4 d5 d6 d7
        repeat (first | go_skip | go_guarded | go_step | go_upon)
        have hM7 := HM6.out.set8 u
        have hO7 := own_set (B := B) (j := 8) HO6.out (HM6.out.apart HO6.out) (.int .i64 u)
        have hK7 := HK6.out.trans (set_keep HM6.out 8 (.int .i64 u))
        refine ⟨⟨u, _, u, m + 1, _, a5, c5, f', { mkr := hM7, own := hO7, hu := rfl, ht := Nat.le_refl _, hf := hus, mw := hK7.map H3.out.mw, ok := H3.out.ok, mb := hK7.map H3.out.mb, hm := by have := H3.out.hm; omega, no := noText_addC _ _, inb := HW2.out, len := by have := HL1.out; have := HL2.out; have := H3.out.len; omega, res := ?_, below := HB6.out.setCell (p := ⟨B, 8, none⟩) hN _ }⟩, by rw [aRead_is hM7, HA.out]; omega⟩
        have hr := H3.out.res
        have hfd := HFB.out
        rw [H3.out.hu, drop_ext] at hfd
        rw [goF_some hz1 (by rw [drop_cons hlt]; simp) hfd] at hr
        rw [pend_self, H3.out.hu, drop_min]
        exact hr
    · have hfe : f = s.size := by omega
      have hd : decide (f = s.size) = true := decide_eq_true hfe
      rw [hd] at CO
      refine CO.out.mono ?_
      rintro r w1 ⟨rfl, hb1⟩
      simp only []
      have H1 := Lib.hid (HI.out.keep hN hb1)
      have CN := Lib.hid (tellNew_any B b1 b2 s sz f u _ told base N O a c w1 H1.out.mkr H1.out.own H1.out.ht H1.out.hf hs (by have := H1.out.len; omega) hN hNb (Nat.le_trans hb H1.out.below.size))
      unfold MkPost at CN
      have HR : Hid (pend O (s.extract told f).data.toList = R) := Lib.hid (by
        have hr := H1.out.res
        rw [List.drop_eq_nil_of_le (by have := size_data s; omega), goF_nil] at hr
        exact hr)
      rw [HR.out] at CN
      clear hd CO hb1 HI hlt hfe
      repeat (first | go_skip | go_guarded | go_step | go_upon)
      refine CN.out.mono ?_
      rintro r w4 ⟨a4, c4, rfl, hmk4, hown4, hkeep4, hb4⟩
      simp only []
      have HM4 := Lib.hid hmk4
      have HO4 := Lib.hid hown4
      have HB4 := Lib.hid (H1.out.below.trans hb4)
      clear hmk4 hown4 hkeep4 hb4 CN
      repeat (first | go_skip | go_guarded | go_step | go_upon)
      go_end0
      exact ⟨a4, c4, rfl, HM4.out.c7, HO4.out, HB4.out⟩
end DM
end Go.Proofs.YtmpmmebmhffaeaaDoor
