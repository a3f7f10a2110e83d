/- Layer 1: the walk of the statement NameBack: it answers true, for every text. -/
import Derived.Test.YtnikenhfpgoaoaaDoorNameLaws1
import Derived.Test.YtnikenhfpgoaoaaDoorNameCut
namespace Go.Proofs.YtnikenhfpgoaoaaDoor
open Go.RowKit Go.Lib
namespace NB
open NF NI NC NL

theorem byte_ext {a b : ByteArray} (h : a.data.toList = b.data.toList) : a = b := by
  rw [← Lib.mk_data a, ← Lib.mk_data b, h]
theorem joinR_path {s : ByteArray} {ls : List (List UInt8)} (hp : NP.pathL s.data.toList = true) (hl : ls = NP.cutOn s.data.toList) : joinR ls = (s.data.toList, true) := by
  unfold NP.pathL at hp
  simp only [Bool.and_eq_true, decide_eq_true_eq] at hp
  have e := NP.split_eq s.data.toList
  rw [e] at hp
  have hlen := NP.cutOn_length s.data.toList
  have hpp : NP.pathL (Lib.join (NP.cutOn s.data.toList) [47]) = true := by
    rw [NP.cutOn_join]
    unfold NP.pathL
    rw [e, hp.2, decide_eq_true hp.1.1, decide_eq_true hp.1.2]
    rfl
  rw [joinR_of (by rw [hl]; omega) (by rw [hl]; exact hp.2), hl, if_pos hpp, NP.cutOn_join]
theorem names_path {s : List UInt8} (hp : NP.pathL s = true) : NP.allL (NP.cutOn s) = true := by
  unfold NP.pathL at hp
  simp only [Bool.and_eq_true, decide_eq_true_eq] at hp
  rw [NP.split_eq] at hp
  exact hp.2
theorem name_at {xs : List ByteArray} {k : Nat} {x : ByteArray} (h : NP.allL (xs.map (·.data.toList)) = true) (hx : xs[k]? = some x) : NP.nameL x.data.toList = true := by
  unfold NP.allL at h
  exact List.all_eq_true.1 h _ (List.mem_map.2 ⟨x, List.mem_of_getElem? hx, rfl⟩)
/-- The last of the parts is what stands behind the last slash. -/
theorem last_part (l : List UInt8) : (NP.cutOn l).getLast? = some (NP.lastL l) := by
  rcases NP.parts l with h | ⟨u, t, rfl, h⟩
  · rw [NP.cutOn_none h, NP.lastL_none h]; rfl
  · rw [NP.cutOn_snoc h, NP.lastL_snoc h]; simp
theorem last_cell {xs : List ByteArray} {s : ByteArray} {n : Nat} (h : xs.map (·.data.toList) = NP.cutOn s.data.toList) (hn : xs.length = n + 1) {v : ByteArray} (hv : v.data.toList = NP.lastL s.data.toList) : xs[n]? = some v := by
  have h1 := last_part s.data.toList
  rw [← h, List.getLast?_map, List.getLast?_eq_getElem?] at h1
  rw [hn, Nat.add_sub_cancel] at h1
  obtain ⟨x, hx, e⟩ := Option.map_eq_some_iff.1 h1
  rw [hx, byte_ext (a := x) (b := v) (by rw [e, hv])]
theorem within_up {a t : List UInt8} (hp : NP.pathL (a ++ 47 :: t) = true) : NP.withinL (a ++ 47 :: t) a = true := by
  have h2 : Lib.hasPrefix (a ++ 47 :: t) a = true := by unfold Lib.hasPrefix; rw [List.isPrefixOf_iff_prefix]; exact ⟨_, rfl⟩
  rw [within_yes hp h2 rfl]
  unfold Lib.trimPrefix
  rw [if_pos h2, List.drop_left]
  unfold NP.restOk
  simp
theorem within_back {a t : List UInt8} : NP.withinL a (a ++ 47 :: t) = false := by
  apply within_pre
  unfold Lib.hasPrefix
  rw [Bool.eq_false_iff]
  intro h
  rw [List.isPrefixOf_iff_prefix] at h
  have := h.length_le
  simp at this
  omega
theorem up_ne {u t : List UInt8} (hp : NP.pathL (u ++ 47 :: t) = true) (h : 47 ∉ t) : u ≠ [] := by
  rintro rfl
  have := names_path hp
  rw [NP.cutOn_snoc h] at this
  simp [NP.cutOn, NP.allL, NP.nameL] at this

set_option maxRecDepth 100000 in
set_option maxHeartbeats 1600000 in
theorem back_no (s : ByteArray) (w : World) (he : Env w) (hs : s.size ≤ maxLen) (hp : NP.pathL s.data.toList = false) :
    Calls Tryd.prog 5 #[.string s] w (Yes w) := by
  have cAw := awake_any w he
  have cS := fun W (h : Env W) => split_no s W h hs hp
  have cP := fun W (h : Env W) => path_any s W h hs
  rw [hp] at cP
  have cU := fun W (h : Env W) => parent_any s W h hs
  have cB := fun W (h : Env W) => base_any s W h hs
  have eu : NP.parentL s.data.toList = [] := by unfold NP.parentL; rw [hp]; rfl
  have eb : NP.baseL s.data.toList = [] := by unfold NP.baseL; rw [hp]; rfl
  rw [eu] at cU
  rw [eb] at cB
  have He := Lib.hid he
  clear he hp eu eb
  go_enter Tryd.func5, Tryd.ntmps5
  go_wp2_with fail
  refine cAw.mono ?_
  rintro e w1 ⟨rfl, hb1⟩
  have HB1 := Lib.hid hb1
  clear hb1 cAw
  go_wp2_with fail
  refine (cS _ (He.out.below HB1.out)).mono ?_
  rintro e w2 ⟨rfl, hb2⟩
  have HB2 := Lib.hid (HB1.out.trans (hb2.mono HB1.out.size))
  clear hb2 cS HB1
  go_wp2_with fail
  refine (cP _ (He.out.below HB2.out)).mono ?_
  rintro e w3 ⟨rfl, hb3⟩
  have HB3 := Lib.hid (HB2.out.trans (hb3.mono HB2.out.size))
  clear hb3 cP HB2
  go_wp2_with fail
  refine (cU _ (He.out.below HB3.out)).mono ?_
  rintro e w4 ⟨u, rfl, hu, hb4⟩
  obtain rfl : u = ByteArray.empty := byte_ext hu
  have HB4 := Lib.hid (HB3.out.trans (hb4.mono HB3.out.size))
  clear hb4 hu cU HB3
  go_wp2_with fail
  refine (cB _ (He.out.below HB4.out)).mono ?_
  rintro e w5 ⟨v, rfl, hv, hb5⟩
  obtain rfl : v = ByteArray.empty := byte_ext hv
  have HB5 := Lib.hid (HB4.out.trans (hb5.mono HB4.out.size))
  clear hb5 hv cB HB4
  go_wp2
  go_ret
  exact ⟨rfl, HB5.out⟩

set_option maxRecDepth 100000 in
set_option maxHeartbeats 1600000 in
theorem back_yes (s : ByteArray) (w : World) (he : Env w) (hs : s.size ≤ maxLen) (hp : NP.pathL s.data.toList = true) :
    Calls Tryd.prog 5 #[.string s] w (Yes w) := by
  have h4 : s.size ≤ 400 := by rw [Lib.size_eq]; exact path_short hp
  have cAw := awake_any w he
  have cS := fun W (h : Env W) => split_yes s W h hs hp
  have cP := fun W (h : Env W) => path_any s W h hs
  rw [hp] at cP
  have cU := fun W (h : Env W) => parent_any s W h hs
  have cB := fun W (h : Env W) => base_any s W h hs
  have Hp := Lib.hid hp
  have Hal := Lib.hid (names_path hp)
  have He := Lib.hid he
  clear he hp
  go_enter Tryd.func5, Tryd.ntmps5
  go_wp2_with fail
  refine cAw.mono ?_
  rintro e w1 ⟨rfl, hb1⟩
  have HB1 := Lib.hid hb1
  clear hb1 cAw
  go_wp2_with fail
  refine (cS _ (He.out.below HB1.out)).mono ?_
  rintro e w2 ⟨bk, xs, rfl, hx1, hx2, hx3, hlies, hbk, hb2⟩
  have HB2 := Lib.hid (HB1.out.trans (hb2.mono HB1.out.size))
  have Hx1 := Lib.hid hx1
  have Hl := Lib.hid hlies
  have hn : xs.length = s.data.toList.count 47 + 1 := hx3
  have hc400 : s.data.toList.count 47 ≤ 400 := Nat.le_trans List.count_le_length (by rw [← Lib.size_eq]; exact h4)
  have Hx2 := Lib.hid hx2
  have hxl : xs.length ≤ 401 := by omega
  have Hn := Lib.hid hn
  clear hb2 cS HB1 hx1 hlies hx3 hx2
  generalize hcn : s.data.toList.count 47 = n at hn hc400 Hn
  clear hcn
  rw [hn]
  clear hn
  go_wp2_with fail
  refine (cP _ (He.out.below HB2.out)).mono ?_
  rintro e w3 ⟨rfl, hb3⟩
  have HB3 := Lib.hid (HB2.out.trans (hb3.mono HB2.out.size))
  have Hl3 : Hid (Lies bk xs w3) := Lib.hid ⟨fun j x hj => by rw [hb3.cell (p := ⟨bk, 0 + j, none⟩) Hl.out.block]; exact Hl.out.cells j x hj, Nat.lt_of_lt_of_le Hl.out.block hb3.size⟩
  clear hb3 cP HB2 Hl
  have cJ := join_any bk 0 xs.length xs w3 (He.out.below HB3.out) Hl3.out.cells Hl3.out.block (fun x hx => by have := Hx2.out x hx; unfold maxLen; omega) (Nat.le_refl _) (by omega)
  rw [Hn.out] at cJ
  go_wp2_with fail
  refine cJ.mono ?_
  rintro e w4 ⟨t, b, rfl, ht, hb4⟩
  have ej := joinR_path Hp.out Hx1.out
  rw [ej] at ht
  simp only [Prod.mk.injEq] at ht
  obtain ⟨ht, rfl⟩ := ht
  obtain rfl : s = t := byte_ext ht
  have HB4 := Lib.hid (HB3.out.trans (hb4.mono HB3.out.size))
  have Hl4 : Hid (Lies bk xs w4) := Lib.hid ⟨fun j x hj => by rw [hb4.cell (p := ⟨bk, 0 + j, none⟩) Hl3.out.block]; exact Hl3.out.cells j x hj, Nat.lt_of_lt_of_le Hl3.out.block hb4.size⟩
  clear hb4 cJ HB3 Hl3 ej ht
  go_wp2_with fail
  go_loopw [41] (fun i wr => ∃ k : Nat, k ≤ n + 1 ∧ i = .int .i64 k ∧ Below w4.heap.size w4 wr) (fun i _ => n + 1 - (Go.RowKit.intOf i).toNat)
  case atStart => exact ⟨0, Nat.zero_le _, rfl, Below.refl _ _⟩
  case round =>
    obtain ⟨k, hk, rfl, hbr⟩ := hrel
    have HBR := Lib.hid hbr
    clear hbr
    have HBW := Lib.hid (HB4.out.trans (HBR.out.mono HB4.out.size))
    by_cases hlt : k < n + 1
    · obtain ⟨x, hx⟩ : ∃ x, xs[k]? = some x := ⟨xs[k]'(by have := Hn.out; omega), List.getElem?_eq_getElem _⟩
      have hz : (k : Int) < (n : Int) + 1 := by omega
      have hcell : wr.cell? ⟨bk, 0 + k, none⟩ = some (.string x) := by
        rw [HBR.out.cell (p := ⟨bk, 0 + k, none⟩) Hl4.out.block]; exact Hl4.out.cells k x hx
      rw [Nat.zero_add] at hcell
      have hnm := name_at (by rw [Hx1.out]; exact Hal.out) hx
      have cN := name_any x wr (He.out.below HBW.out) (by have := Hx2.out x (List.mem_of_getElem? hx); unfold maxLen; omega)
      rw [hnm] at cN
      clear hx hnm
      go_wp2_with fail
      refine cN.mono ?_
      rintro e w5 ⟨rfl, hb5⟩
      have HB5 := Lib.hid (HBR.out.trans (hb5.mono HBR.out.size))
      clear hb5 cN hcell
      go_wp2
      go_roundw
      case rel => exact ⟨k + 1, by omega, by go_num, HB5.out⟩
      case measure => simp [Go.RowKit.intOf]; omega
    · obtain rfl : k = n + 1 := by omega
      go_wp2_with fail
      refine (cU _ (He.out.below HBW.out)).mono ?_
      rintro e w5 ⟨u, rfl, hu, hb5⟩
      have HB5 := Lib.hid (HBR.out.trans (hb5.mono HBR.out.size))
      have HW5 := Lib.hid (HBW.out.trans (hb5.mono HBW.out.size))
      have Hu := Lib.hid hu
      clear hb5 hu cU
      go_wp2_with fail
      refine (cB _ (He.out.below HW5.out)).mono ?_
      rintro e w6 ⟨v, rfl, hv, hb6⟩
      have HB6 := Lib.hid (HB5.out.trans (hb6.mono HB5.out.size))
      have HW6 := Lib.hid (HW5.out.trans (hb6.mono HW5.out.size))
      have Hv := Lib.hid hv
      clear hb6 hv cB
      have hup : u.data.toList = NP.upL s.data.toList := by rw [Hu.out]; unfold NP.parentL; rw [if_pos Hp.out]
      have hlast : v.data.toList = NP.lastL s.data.toList := by rw [Hv.out]; unfold NP.baseL; rw [if_pos Hp.out]
      have hlc := last_cell Hx1.out Hn.out hlast
      have hcell : w6.cell? ⟨bk, 0 + n, none⟩ = some (.string v) := by
        rw [HB6.out.cell (p := ⟨bk, 0 + n, none⟩) Hl4.out.block]; exact Hl4.out.cells n v hlc
      rw [Nat.zero_add] at hcell
      clear hlc
      rcases NP.parts s.data.toList with hno | ⟨a, t, hs', hno⟩
      · rw [NP.upL_none hno] at hup
        rw [NP.lastL_none hno] at hlast
        obtain rfl : u = ByteArray.empty := byte_ext hup
        obtain rfl : v = s := byte_ext hlast
        clear hup hlast hno
        go_wp2
        go_ret
        exact ⟨rfl, HW6.out⟩
      · have hane := up_ne (by rw [← hs']; exact Hp.out) hno
        rw [hs', NP.upL_snoc hno] at hup
        rw [hs', NP.lastL_snoc hno] at hlast
        have hu0 : u.toList.isEmpty = false := by rw [Lib.toList_data, hup]; simpa using hane
        have hcat : ((u ++ (⟨#[47]⟩ : ByteArray) ++ v).toList == s.toList) = true := by
          rw [Lib.toList_data, Lib.toList_data, hs']
          simp [ByteArray.data_append, hup, hlast]
        have hus : u.size ≤ 400 := by
          have h := congrArg List.length hs'
          rw [← hup, ← hlast, ← Lib.size_eq] at h
          simp only [List.length_append, List.length_cons] at h
          rw [Lib.size_eq u]; omega
        have hvs : v.size ≤ 400 := by
          have h := congrArg List.length hs'
          rw [← hup, ← hlast, ← Lib.size_eq] at h
          simp only [List.length_append, List.length_cons] at h
          rw [Lib.size_eq v]; omega
        have hw1 : NP.withinL s.data.toList u.data.toList = true := by
          have := Hp.out
          rw [hs'] at this ⊢
          rw [hup]
          exact within_up this
        have hw2 : NP.withinL u.data.toList s.data.toList = false := by rw [hs', hup]; exact within_back
        have cW1 := fun W (h : Env W) => within_any s u W h hs
        have cW2 := fun W (h : Env W) => within_any u s W h (by unfold maxLen; omega)
        rw [hw1] at cW1
        rw [hw2] at cW2
        clear hup hlast hno hane hw1 hw2 hs'
        go_wp2_with fail
        refine (cW1 _ (He.out.below HW6.out)).mono ?_
        rintro e w7 ⟨rfl, hb7⟩
        have HW7 := Lib.hid (HW6.out.trans (hb7.mono HW6.out.size))
        clear hb7 cW1
        go_wp2_with fail
        refine (cW2 _ (He.out.below HW7.out)).mono ?_
        rintro e w8 ⟨rfl, hb8⟩
        have HW8 := Lib.hid (HW7.out.trans (hb8.mono HW7.out.size))
        clear hb8 cW2
        go_wp2
        go_ret
        exact ⟨rfl, HW8.out⟩
theorem back_law (s : ByteArray) (w : World) (he : Env w) (hs : s.size ≤ maxLen) :
    Calls Tryd.prog 5 #[.string s] w (Yes w) := by
  cases hp : NP.pathL s.data.toList
  · exact back_no s w he hs hp
  · exact back_yes s w he hs hp
end NB
end Go.Proofs.YtnikenhfpgoaoaaDoor
