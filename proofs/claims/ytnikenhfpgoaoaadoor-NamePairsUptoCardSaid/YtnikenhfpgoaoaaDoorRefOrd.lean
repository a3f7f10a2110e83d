/- The document's answer for layer 1: the contracts of the reference's Order and Within, for texts of up to 1048576 bytes; the walk of the statement NamePairs. -/
import Derived.Test.YtnikenhfpgoaoaaDoorRefOrdP
import Derived.Test.YtnikenhfpgoaoaaDoorRefTexts
namespace Go.Proofs.YtnikenhfpgoaoaaDoor
open Go.RowKit Go.Lib
namespace RO
open NF NL NI NC RP RN RQ NB RT

theorem less_cmp : ∀ a b : List UInt8, Op.bytesLess a b = decide (NP.cmpL a b < 0)
  | [], [] => rfl
  | [], _ :: _ => rfl
  | _ :: _, [] => rfl
  | x :: a, y :: b => by
    have ih := less_cmp a b
    unfold Op.bytesLess NP.cmpL
    by_cases h1 : x.toNat < y.toNat
    · have e : x < y := h1
      rw [if_pos h1]
      simp [e]
    · have e : ¬ x < y := h1
      rw [if_neg h1]
      by_cases h2 : y.toNat < x.toNat
      · have e2 : (x == y) = false := by
          rw [beq_eq_false_iff_ne]; rintro rfl; omega
        rw [if_pos h2]
        simp [e, e2]
      · have e2 : x = y := UInt8.toNat_inj.1 (by omega)
        rw [if_neg h2]
        subst e2
        simp [e, ih]
theorem cmpL_swap : ∀ a b : List UInt8, NP.cmpL b a = - NP.cmpL a b
  | [], [] => rfl
  | [], _ :: _ => rfl
  | _ :: _, [] => rfl
  | x :: a, y :: b => by
    unfold NP.cmpL
    by_cases h1 : x.toNat < y.toNat
    · rw [if_pos h1, if_neg (by omega), if_pos h1]; rfl
    · by_cases h2 : y.toNat < x.toNat
      · rw [if_pos h2, if_neg h1, if_pos h2]
      · rw [if_neg h2, if_neg h1, if_neg h1, if_neg h2]; exact cmpL_swap a b
theorem cmpL_cases : ∀ a b : List UInt8, NP.cmpL a b = -1 ∨ NP.cmpL a b = 0 ∨ NP.cmpL a b = 1
  | [], [] => by simp [NP.cmpL]
  | [], _ :: _ => by simp [NP.cmpL]
  | _ :: _, [] => by simp [NP.cmpL]
  | x :: a, y :: b => by
    unfold NP.cmpL
    split
    · simp
    · split
      · simp
      · exact cmpL_cases a b
theorem cmpL_zero : ∀ {a b : List UInt8}, NP.cmpL a b = 0 → a = b
  | [], [], _ => rfl
  | [], _ :: _, h => by simp [NP.cmpL] at h
  | _ :: _, [], h => by simp [NP.cmpL] at h
  | x :: a, y :: b, h => by
    unfold NP.cmpL at h
    split at h
    · omega
    · split at h
      · omega
      · rw [UInt8.toNat_inj.1 (show x.toNat = y.toNat by omega), cmpL_zero h]
theorem less_yes {x y : ByteArray} (h : NP.cmpL x.data.toList y.data.toList = -1) : Op.bytesLess x.toList y.toList = true ∧ Op.bytesLess y.toList x.toList = false := by
  rw [Lib.toList_data, Lib.toList_data, less_cmp, less_cmp, cmpL_swap x.data.toList, h]; exact ⟨rfl, rfl⟩
theorem less_not {x y : ByteArray} (h : NP.cmpL x.data.toList y.data.toList = 1) : Op.bytesLess x.toList y.toList = false ∧ Op.bytesLess y.toList x.toList = true := by
  rw [Lib.toList_data, Lib.toList_data, less_cmp, less_cmp, cmpL_swap x.data.toList, h]; exact ⟨rfl, rfl⟩
theorem cmpL_self : ∀ a : List UInt8, NP.cmpL a a = 0
  | [] => rfl
  | x :: a => by unfold NP.cmpL; rw [if_neg (by omega), if_neg (by omega)]; exact cmpL_self a
theorem less_self (x : ByteArray) : Op.bytesLess x.toList x.toList = false := by
  rw [Lib.toList_data, less_cmp, cmpL_self]; rfl
theorem gtr_str (t : TypeId) (a b : ByteArray) : binOp .gtr t (.string a) (.string b) = pure (.bool (!(Op.bytesLess a.toList b.toList || a.toList == b.toList))) := by simp [binOp, Op.stringOp]
attribute [local go_sem] gtr_str
def OrdPost (a b : ByteArray) (w : World) (e : Ending) (w' : World) : Prop := e = .returned (.int .i64 (NP.ordL a.data.toList b.data.toList)) ∧ Below w.heap.size w w'
theorem keep_lies {bk : Nat} {xs : List ByteArray} {w w' : World} (h : Lies bk xs w) (hb : Below w.heap.size w w') : Lies bk xs w' :=
  ⟨fun j x hj => by rw [hb.cell (p := ⟨bk, 0 + j, none⟩) h.block]; exact h.cells j x hj, Nat.lt_of_lt_of_le h.block hb.size⟩
theorem few {s : ByteArray} {xs : List ByteArray} (hx : xs.map (·.data.toList) = NP.cutOn s.data.toList) (hs : s.size ≤ 1048576) : xs.length ≤ 1048577 := by
  have h1 : xs.length = (NP.cutOn s.data.toList).length := by rw [← hx, List.length_map]
  have h2 := NP.cutOn_length s.data.toList
  have h3 : s.data.toList.count 47 ≤ s.data.toList.length := List.count_le_length
  rw [Lib.size_eq] at hs
  omega
theorem take_data {xs ys : List ByteArray} {k : Nat} (h : xs.take k = ys.take k) : (xs.map (·.data.toList)).take k = (ys.map (·.data.toList)).take k := by
  rw [← List.map_take, ← List.map_take, h]
set_option maxRecDepth 100000 in
set_option maxHeartbeats 3200000 in
theorem rorder_any (a b : ByteArray) (w : World) (ha : a.size ≤ 1048576) (hb : b.size ≤ 1048576) :
    Calls Tryd.prog 23 #[.string a, .string b] w (OrdPost a b w) := by
  have cA := parts_any a w ha
  go_enter Tryd.func23, Tryd.ntmps23
  go_wp2_with fail
  refine cA.mono ?_
  rintro e w1 ⟨b1, c1, xs, rfl, hc1, hx, hxs, hl1, hk1, hb1⟩
  have HB1 := Lib.hid hb1
  have HL1 := Lib.hid hl1
  have hxn := few hx ha
  have HX := Lib.hid hx
  have cB := parts_any b w1 hb
  clear hb1 hl1 cA hx hxs hk1
  go_wp2_with fail
  refine cB.mono ?_
  rintro e w2 ⟨b2, c2, ys, rfl, hc2, hy, hys, hl2, hk2, hb2⟩
  have HB2 := Lib.hid (HB1.out.trans (hb2.mono HB1.out.size))
  have HL1' := Lib.hid (keep_lies HL1.out hb2)
  have HL2 := Lib.hid hl2
  have hyn := few hy hb
  have HY := Lib.hid hy
  have HO := Lib.hid (NP.ordL_parts a.data.toList b.data.toList)
  clear hb2 hl2 cB hy hys hk2 HB1 HL1
  go_wp2
  go_loopw [7] (fun i wr => ∃ k : Nat, k ≤ xs.length ∧ k ≤ ys.length ∧ i = .int .i64 k ∧ xs.take k = ys.take k ∧ NO.Drawn w2 wr) (fun i _ => xs.length - (Go.RowKit.intOf i).toNat)
  case atStart => exact ⟨0, Nat.zero_le _, Nat.zero_le _, rfl, rfl, NO.Drawn.refl _⟩
  case round =>
    obtain ⟨k, hkx, hky, rfl, ht, n, rfl⟩ := hrel
    have HT := Lib.hid ht
    clear ht
    by_cases hlx : k < xs.length
    · have hzx : (k : Int) < xs.length := by omega
      have hdx : decide ((k : Int) < xs.length) = true := decide_eq_true hzx
      by_cases hly : k < ys.length
      · have hzy : (k : Int) < ys.length := by omega
        obtain ⟨x, hx⟩ : ∃ x, xs[k]? = some x := ⟨xs[k], List.getElem?_eq_getElem hlx⟩
        obtain ⟨y, hy⟩ : ∃ y, ys[k]? = some y := ⟨ys[k], List.getElem?_eq_getElem hly⟩
        have ca : w2.cell? ⟨b1, k, none⟩ = some (.string x) := by have := HL1'.out.cells k x hx; rw [Nat.zero_add] at this; exact this
        have cb : w2.cell? ⟨b2, k, none⟩ = some (.string y) := by have := HL2.out.cells k y hy; rw [Nat.zero_add] at this; exact this
        have HXk := Lib.hid hx
        have HYk := Lib.hid hy
        have hmiss : x.data.toList ≠ y.data.toList → NP.ordL a.data.toList b.data.toList = NP.cmpL x.data.toList y.data.toList := by
          intro hne
          rw [HO.out, ← HX.out, ← HY.out]
          exact NP.cmpP_miss (take_data HT.out) (by rw [List.getElem?_map, hx]; rfl) (by rw [List.getElem?_map, hy]; rfl) hne
        rcases cmpL_cases x.data.toList y.data.toList with hc | hc | hc
        · obtain ⟨hl, _⟩ := less_yes hc
          have HM : Hid (NP.ordL a.data.toList b.data.toList = -1) := Lib.hid (by rw [hmiss (by intro e; rw [e, cmpL_self] at hc; omega), hc])
          clear hx hy hc hmiss
          go_wp2
          go_quiet (fail)
          go_wp2
          go_ret
          exact ⟨by rw [HM.out]; rfl, by first | exact HB2.out.trans ((NA.below_drewN (Below.refl w2.heap.size w2) _).mono HB2.out.size) | exact HB2.out.trans ((NA.below_drewN (NA.below_drewN (Below.refl w2.heap.size w2) _) _).mono HB2.out.size) | exact HB2.out.trans ((NA.below_drewN (NA.below_drewN (NA.below_drewN (Below.refl w2.heap.size w2) _) _) _).mono HB2.out.size)⟩
        · have hxy : x = y := byte_ext (cmpL_zero hc)
          subst hxy
          have hl := less_self x
          have HT2 : Hid (xs.take (k + 1) = ys.take (k + 1)) := Lib.hid (by rw [List.take_add_one, List.take_add_one, HT.out, HXk.out, HYk.out])
          clear hx hy hc hmiss
          go_wp2
          go_quiet (fail)
          rename_i nq
          go_wp2
          generalize hnn : n + nq = n2
          go_quiet (fail)
          go_wp2
          go_roundw
          case rel => exact ⟨k + 1, by omega, by omega, by go_num, HT2.out, _, by first | rfl | rw [World.drewN_drewN]⟩
          case measure => simp [Go.RowKit.intOf]; omega
        · obtain ⟨hl1, hl2⟩ := less_not hc
          have hq : (x.toList == y.toList) = false := by
            rw [Lib.toList_data, Lib.toList_data, beq_eq_false_iff_ne]
            intro e
            rw [e, cmpL_self] at hc
            omega
          have HM : Hid (NP.ordL a.data.toList b.data.toList = 1) := Lib.hid (by rw [hmiss (by intro e; rw [e, cmpL_self] at hc; omega), hc])
          clear hx hy hc hmiss
          go_wp2
          go_quiet (fail)
          go_wp2
          go_quiet (fail)
          go_wp2
          go_ret
          exact ⟨by rw [HM.out]; rfl, by first | exact HB2.out.trans ((NA.below_drewN (Below.refl w2.heap.size w2) _).mono HB2.out.size) | exact HB2.out.trans ((NA.below_drewN (NA.below_drewN (Below.refl w2.heap.size w2) _) _).mono HB2.out.size) | exact HB2.out.trans ((NA.below_drewN (NA.below_drewN (NA.below_drewN (Below.refl w2.heap.size w2) _) _) _).mono HB2.out.size)⟩
      · have hzy : ¬ (k : Int) < ys.length := by omega
        have HM : Hid (NP.ordL a.data.toList b.data.toList = 1) := Lib.hid (by
          rw [HO.out, ← HX.out, ← HY.out, NP.cmpP_end (m := k) (by simp; omega) (take_data HT.out)]
          unfold NP.cmpN
          simp only [List.length_map]
          rw [if_neg (by omega), if_pos (by omega)])
        have h1 : ¬ (xs.length : Int) < ys.length := by omega
        have h2 : (ys.length : Int) < xs.length := by omega
        go_wp2
        go_ret
        exact ⟨by rw [HM.out]; rfl, HB2.out.trans ((NA.below_drewN (Below.refl w2.heap.size w2) _).mono HB2.out.size)⟩
    · have hzx : ¬ (k : Int) < xs.length := by omega
      have hdx : decide ((k : Int) < xs.length) = false := decide_eq_false hzx
      have hend : NP.ordL a.data.toList b.data.toList = NP.cmpN xs.length ys.length := by
        rw [HO.out, ← HX.out, ← HY.out, NP.cmpP_end (m := k) (by simp; omega) (take_data HT.out), List.length_map, List.length_map]
      by_cases h1 : xs.length < ys.length
      · have HM : Hid (NP.ordL a.data.toList b.data.toList = -1) := Lib.hid (by rw [hend]; unfold NP.cmpN; rw [if_pos h1])
        have h1z : (xs.length : Int) < ys.length := by omega
        clear hend
        go_wp2
        go_ret
        exact ⟨by rw [HM.out]; rfl, HB2.out.trans ((NA.below_drewN (Below.refl w2.heap.size w2) _).mono HB2.out.size)⟩
      · have HM : Hid (NP.ordL a.data.toList b.data.toList = 0) := Lib.hid (by rw [hend]; unfold NP.cmpN; rw [if_neg h1, if_neg (by omega)])
        have h1z : ¬ (xs.length : Int) < ys.length := by omega
        have h2z : ¬ (ys.length : Int) < xs.length := by omega
        clear hend
        go_wp2
        go_ret
        exact ⟨by rw [HM.out]; rfl, HB2.out.trans ((NA.below_drewN (Below.refl w2.heap.size w2) _).mono HB2.out.size)⟩

/- Within -/
theorem pre_full {xs ys : List ByteArray} (ht : xs.take ys.length = ys.take ys.length) : ys.map (·.data.toList) <+: xs.map (·.data.toList) := by
  rw [List.take_length] at ht
  refine ⟨(xs.drop ys.length).map (·.data.toList), ?_⟩
  have e : xs = ys ++ xs.drop ys.length := by
    conv => lhs; rw [← List.take_append_drop ys.length xs, ht]
  rw [← List.map_append, ← e]
theorem pre_miss {xs ys : List ByteArray} {k : Nat} {x y : ByteArray} (hx : xs[k]? = some x) (hy : ys[k]? = some y) (hne : x.data.toList ≠ y.data.toList) : ¬ ys.map (·.data.toList) <+: xs.map (·.data.toList) := by
  rintro ⟨t, ht⟩
  have h1 : (xs.map (·.data.toList))[k]? = some x.data.toList := by rw [List.getElem?_map, hx]; rfl
  have h2 : (ys.map (·.data.toList))[k]? = some y.data.toList := by rw [List.getElem?_map, hy]; rfl
  have hlt : k < (ys.map (·.data.toList)).length := (List.getElem?_eq_some_iff.1 h2).1
  rw [← ht, List.getElem?_append_left hlt, h2, Option.some.injEq] at h1
  exact hne h1.symm
theorem within_no_parts {p q : List UInt8} (hp : NP.pathL p = true) (hq : q ≠ []) (h : ¬ NP.cutOn q <+: NP.cutOn p) : NP.withinL p q = false := by
  rw [Bool.eq_false_iff]
  intro e
  exact h ((NP.within_parts hp hq).1 e).2
def InPost (p q : ByteArray) (w : World) (e : Ending) (w' : World) : Prop := e = .returned (.bool (NP.withinL p.data.toList q.data.toList)) ∧ Below w.heap.size w w'
set_option maxRecDepth 100000 in
set_option maxHeartbeats 3200000 in
theorem rwithin_any (p q : ByteArray) (w : World) (hps : p.size ≤ 1048576) (hqs : q.size ≤ 1048576) :
    Calls Tryd.prog 25 #[.string p, .string q] w (InPost p q w) := by
  have cP := rpath_any p w hps
  cases hp : NP.pathL p.data.toList
  · have HF := Lib.hid (within_no (q := q.data.toList) hp)
    rw [hp] at cP
    clear hp
    go_enter Tryd.func25, Tryd.ntmps25
    go_wp2_with fail
    refine cP.mono ?_
    rintro e w1 ⟨rfl, hb⟩
    go_wp2
    go_ret
    exact ⟨by rw [HF.out]; rfl, hb⟩
  · have Hp := Lib.hid hp
    rw [hp] at cP
    clear hp
    by_cases hq0 : q.toList = []
    · have e0 : q.data.toList = [] := by rw [← Lib.toList_data]; exact hq0
      have HF : Hid (NP.withinL p.data.toList q.data.toList = true) := Lib.hid (by rw [e0]; exact NP.within_root Hp.out)
      have h1 : q.toList.isEmpty = true := by rw [hq0]; rfl
      clear hq0 e0
      go_enter Tryd.func25, Tryd.ntmps25
      go_wp2_with fail
      refine cP.mono ?_
      rintro e w1 ⟨rfl, hb⟩
      go_wp2
      go_ret
      exact ⟨by rw [HF.out]; rfl, hb⟩
    · have hq1 : q.toList.isEmpty = false := by simpa using hq0
      have Hq : Hid (q.data.toList ≠ []) := Lib.hid (by rw [← Lib.toList_data]; exact hq0)
      clear hq0
      go_enter Tryd.func25, Tryd.ntmps25
      go_wp2_with fail
      refine cP.mono ?_
      rintro e w1 ⟨rfl, hb1⟩
      have HB1 := Lib.hid hb1
      have cQ := rpath_any q w1 hqs
      clear hb1 cP
      go_wp2_with fail
      refine cQ.mono ?_
      rintro e w2 ⟨rfl, hb2⟩
      have HB2 := Lib.hid (HB1.out.trans (hb2.mono HB1.out.size))
      clear hb2 cQ HB1
      cases hpq : NP.pathL q.data.toList
      · have HF := Lib.hid (NP.within_noq Hp.out Hq.out hpq)
        clear hpq
        go_wp2
        go_ret
        exact ⟨by rw [HF.out]; rfl, HB2.out⟩
      · have Hpq := Lib.hid hpq
        clear hpq
        have cA := parts_any p w2 hps
        go_wp2_with fail
        refine cA.mono ?_
        rintro e w3 ⟨b1, c1, xs, rfl, hc1, hx, hxs, hl1, hk1, hb3⟩
        have HB3 := Lib.hid (HB2.out.trans (hb3.mono HB2.out.size))
        have HL1 := Lib.hid hl1
        have hxn := few hx hps
        have HX := Lib.hid hx
        have cB := parts_any q w3 hqs
        clear hb3 hl1 cA hx hxs hk1 HB2
        go_wp2_with fail
        refine cB.mono ?_
        rintro e w4 ⟨b2, c2, ys, rfl, hc2, hy, hys, hl2, hk2, hb4⟩
        have HB4 := Lib.hid (HB3.out.trans (hb4.mono HB3.out.size))
        have HL1' := Lib.hid (keep_lies HL1.out hb4)
        have HL2 := Lib.hid hl2
        have hyn := few hy hqs
        have HY := Lib.hid hy
        clear hb4 hl2 cB hy hys hk2 HB3 HL1
        by_cases hlen : xs.length < ys.length
        · have HF : Hid (NP.withinL p.data.toList q.data.toList = false) := Lib.hid (within_no_parts Hp.out Hq.out (by
            intro h
            rw [← HX.out, ← HY.out] at h
            have := h.length_le
            rw [List.length_map, List.length_map] at this
            omega))
          have hz : (xs.length : Int) < ys.length := by omega
          go_wp2
          go_ret
          exact ⟨by rw [HF.out]; rfl, HB4.out⟩
        · have hz : ¬ (xs.length : Int) < ys.length := by omega
          have hdz : decide ((xs.length : Int) < ys.length) = false := decide_eq_false hz
          go_wp2
          go_loopw [7] (fun i wr => ∃ k : Nat, k ≤ ys.length ∧ i = .int .i64 k ∧ xs.take k = ys.take k ∧ NO.Drawn w4 wr) (fun i _ => ys.length - (Go.RowKit.intOf i).toNat)
          case atStart => exact ⟨0, Nat.zero_le _, rfl, rfl, NO.Drawn.refl _⟩
          case round =>
            obtain ⟨k, hky, rfl, ht, n, rfl⟩ := hrel
            have HT := Lib.hid ht
            clear ht
            by_cases hly : k < ys.length
            · have hzy : (k : Int) < ys.length := by omega
              have hzx : (k : Int) < xs.length := by omega
              obtain ⟨x, hx⟩ : ∃ x, xs[k]? = some x := ⟨xs[k]'(by omega), List.getElem?_eq_getElem _⟩
              obtain ⟨y, hy⟩ : ∃ y, ys[k]? = some y := ⟨ys[k], List.getElem?_eq_getElem hly⟩
              have ca : w4.cell? ⟨b1, k, none⟩ = some (.string x) := by have := HL1'.out.cells k x hx; rw [Nat.zero_add] at this; exact this
              have cb : w4.cell? ⟨b2, k, none⟩ = some (.string y) := by have := HL2.out.cells k y hy; rw [Nat.zero_add] at this; exact this
              by_cases hxy : x.data.toList = y.data.toList
              · have exy : x = y := byte_ext hxy
                subst exy
                have HT2 : Hid (xs.take (k + 1) = ys.take (k + 1)) := Lib.hid (by rw [List.take_add_one, List.take_add_one, HT.out, hx, hy])
                have hself : (x.toList == x.toList) = true := by simp
                clear hx hy hxy
                go_wp2
                go_quiet (fail)
                go_wp2
                go_roundw
                case rel => exact ⟨k + 1, by omega, by go_num, HT2.out, _, rfl⟩
                case measure => simp [Go.RowKit.intOf]; omega
              · have hne : (x.toList == y.toList) = false := by rw [Lib.toList_data, Lib.toList_data]; simpa using hxy
                have HF : Hid (NP.withinL p.data.toList q.data.toList = false) := Lib.hid (within_no_parts Hp.out Hq.out (by
                  rw [← HX.out, ← HY.out]
                  exact pre_miss hx hy hxy))
                clear hx hy hxy
                go_wp2
                go_quiet (fail)
                go_wp2
                go_ret
                exact ⟨by rw [HF.out]; rfl, by first | exact HB4.out.trans ((NA.below_drewN (Below.refl w4.heap.size w4) _).mono HB4.out.size) | exact HB4.out.trans ((NA.below_drewN (NA.below_drewN (Below.refl w4.heap.size w4) _) _).mono HB4.out.size)⟩
            · have hzy : ¬ (k : Int) < ys.length := by omega
              have HF : Hid (NP.withinL p.data.toList q.data.toList = true) := Lib.hid ((NP.within_parts Hp.out Hq.out).2 ⟨Hpq.out, by
                rw [← HX.out, ← HY.out]
                have ek : k = ys.length := by omega
                have := HT.out
                rw [ek] at this
                exact pre_full this⟩)
              go_wp2
              go_ret
              exact ⟨by rw [HF.out]; rfl, HB4.out.trans ((NA.below_drewN (Below.refl w4.heap.size w4) _).mono HB4.out.size)⟩

/- NamePairs -/
set_option maxRecDepth 100000 in
set_option maxHeartbeats 1600000 in
theorem pairs_law (a b : ByteArray) (w : World) (he : Env w) (ha : a.size ≤ 1048576) (hb : b.size ≤ 1048576) :
    Calls Tryd.prog 4 #[.string a, .string b] w (Yes w) := by
  have hma : a.size ≤ maxLen := by unfold maxLen; omega
  have hmb : b.size ≤ maxLen := by unfold maxLen; omega
  have cAw := awake_any w he
  have c1 := fun W => NO.order_any a b W hma hmb
  have c2 := fun W => rorder_any a b W ha hb
  have c3 := fun W (h : Env W) => within_any a b W h hma
  have c4 := fun W => rwithin_any a b W ha hb
  have He := Lib.hid he
  clear he
  unfold OrdPost at c2
  unfold InPost at c4
  generalize NP.ordL a.data.toList b.data.toList = o at c1 c2
  generalize NP.withinL a.data.toList b.data.toList = i at c3 c4
  have h1 : (o == o) = true := by simp
  have h2 : (i == i) = true := by simp
  go_enter Tryd.func4, Tryd.ntmps4
  go_wp2_with fail
  refine cAw.mono ?_
  rintro e w1 ⟨rfl, hb1⟩
  have HB1 := Lib.hid hb1
  clear hb1 cAw
  go_wp2_with fail
  refine (c1 _).mono ?_
  rintro e w2 ⟨rfl, hd⟩
  have HB2 := Lib.hid (HB1.out.trans ((drawn_below hd).mono HB1.out.size))
  clear hd c1 HB1
  go_wp2_with fail
  refine (c2 _).mono ?_
  rintro e w3 ⟨rfl, hb3⟩
  have HB3 := Lib.hid (HB2.out.trans (hb3.mono HB2.out.size))
  clear hb3 c2 HB2
  go_wp2_with fail
  refine (c3 _ (He.out.below HB3.out)).mono ?_
  rintro e w4 ⟨rfl, hb4⟩
  have HB4 := Lib.hid (HB3.out.trans (hb4.mono HB3.out.size))
  clear hb4 c3 HB3
  go_wp2_with fail
  refine (c4 _).mono ?_
  rintro e w5 ⟨rfl, hb5⟩
  have HB5 := Lib.hid (HB4.out.trans (hb5.mono HB4.out.size))
  clear hb5 c4 HB4
  go_wp2
  go_ret
  exact ⟨rfl, HB5.out⟩
end RO
end Go.Proofs.YtnikenhfpgoaoaaDoor
