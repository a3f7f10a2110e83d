/- Layer 1: the walk of the statement NameTexts: it answers true, for every text of up to 1048576 bytes. -/
import Derived.Test.YtnikenhfpgoaoaaDoorRefTexts
namespace Go.Proofs.YtnikenhfpgoaoaaDoor
open Go.RowKit Go.Lib
namespace NT
open NF NL NC RP RN RQ NB NFo RT

set_option maxRecDepth 100000 in
set_option maxHeartbeats 3200000 in
theorem texts_law (s : ByteArray) (w : World) (he : Env w) (hs : s.size ≤ 1048576) :
    Calls Tryd.prog 3 #[.string s] w (Yes w) := by
  have hm : s.size ≤ maxLen := by unfold maxLen; omega
  have cAw := awake_any w he
  have c1 := fun W (h : Env W) => name_any s W h hm
  have c2 := fun W => rname_any s W (by omega)
  have c3 := fun W (h : Env W) => path_any s W h hm
  have c4 := fun W => rpath_any s W hs
  have c5 := fun W (h : Env W) => parent_any s W h hm
  have c6 := fun W => rparent_any s W hs
  have c7 := fun W (h : Env W) => base_any s W h hm
  have c8 := fun W => rbase_any s W hs
  have c9 := fun W => fold_any s W hm
  have c10 := fun W => rfold_any s W hs
  have He := Lib.hid he
  clear he
  cases hp : NP.pathL s.data.toList
  all_goals
    first
      | (have d1 := fun W (h : Env W) => split_no s W h hm hp
         have d2 := fun W => rsplit_no s W hs hp)
      | (have d1 := fun W (h : Env W) => split_yes s W h hm hp
         have d2 := fun W => rsplit_yes s W hs hp)
    rw [hp] at c3 c4
    clear hp
    generalize NP.nameL s.data.toList = b0 at c1 c2
    generalize NP.parentL s.data.toList = pa at c5 c6
    generalize NP.baseL s.data.toList = ba at c7 c8
    have hb0 : (b0 == b0) = true := by simp
    go_enter Tryd.func3, Tryd.ntmps3
    go_wp2_with fail
    refine cAw.mono ?_
    rintro e w1 ⟨rfl, hb1⟩
    have HB1 := Lib.hid hb1
    clear hb1 cAw
    go_wp2_with fail
    refine (c1 _ (He.out.below HB1.out)).mono ?_
    rintro e w2 ⟨rfl, hb2⟩
    have HB2 := Lib.hid (HB1.out.trans (hb2.mono HB1.out.size))
    clear hb2 c1 HB1
    go_wp2_with fail
    refine (c2 _).mono ?_
    rintro e w3 ⟨rfl, rfl⟩
    clear c2
    go_wp2_with fail
    refine (c3 _ (He.out.below HB2.out)).mono ?_
    rintro e w4 ⟨rfl, hb4⟩
    have HB4 := Lib.hid (HB2.out.trans (hb4.mono HB2.out.size))
    clear hb4 c3 HB2
    go_wp2_with fail
    refine (c4 _).mono ?_
    rintro e w5 ⟨rfl, hb5⟩
    have HB5 := Lib.hid (HB4.out.trans (hb5.mono HB4.out.size))
    clear hb5 c4 HB4
    go_wp2_with fail
    refine (c5 _ (He.out.below HB5.out)).mono ?_
    rintro e w6 ⟨t1, rfl, ht1, hb6⟩
    have HB6 := Lib.hid (HB5.out.trans (hb6.mono HB5.out.size))
    clear hb6 c5 HB5
    go_wp2_with fail
    refine (c6 _).mono ?_
    rintro e w7 ⟨t2, rfl, ht2, hb7⟩
    obtain rfl : t1 = t2 := byte_ext (ht1.trans ht2.symm)
    have HB7 := Lib.hid (HB6.out.trans (hb7.mono HB6.out.size))
    clear hb7 c6 HB6 ht1 ht2
    have ht : (t1.toList == t1.toList) = true := by simp
    go_wp2_with fail
    refine (c7 _ (He.out.below HB7.out)).mono ?_
    rintro e w8 ⟨u1, rfl, hu1, hb8⟩
    have HB8 := Lib.hid (HB7.out.trans (hb8.mono HB7.out.size))
    clear hb8 c7 HB7
    go_wp2_with fail
    refine (c8 _).mono ?_
    rintro e w9 ⟨u2, rfl, hu2, hb9⟩
    obtain rfl : u1 = u2 := byte_ext (hu1.trans hu2.symm)
    have HB9 := Lib.hid (HB8.out.trans (hb9.mono HB8.out.size))
    clear hb9 c8 HB8 hu1 hu2
    have hu : (u1.toList == u1.toList) = true := by simp
    go_wp2_with fail
    refine (c9 _).mono ?_
    rintro e w10 ⟨f1, rfl, hf1, hb10⟩
    have HB10 := Lib.hid (HB9.out.trans (hb10.mono HB9.out.size))
    clear hb10 c9 HB9
    go_wp2_with fail
    refine (c10 _).mono ?_
    rintro e w11 ⟨f2, rfl, hf2, hb11⟩
    obtain rfl : f1 = f2 := byte_ext (hf1.trans hf2.symm)
    have HB11 := Lib.hid (HB10.out.trans (hb11.mono HB10.out.size))
    clear hb11 c10 HB10 hf1 hf2
    have hf : (f1.toList == f1.toList) = true := by simp
    go_wp2_with fail
    refine (d1 _ (He.out.below HB11.out)).mono ?_
  · rintro e w12 ⟨rfl, hb12⟩
    have HB12 := Lib.hid (HB11.out.trans (hb12.mono HB11.out.size))
    clear hb12 d1 HB11
    go_wp2_with fail
    refine (d2 _).mono ?_
    rintro e w13 ⟨rfl, hb13⟩
    have HB13 := Lib.hid (HB12.out.trans (hb13.mono HB12.out.size))
    clear hb13 d2 HB12
    go_wp2_with fail
    refine (texts_nil _ _ _ _ _).mono ?_
    rintro e w14 ⟨rfl, hb14⟩
    have HB14 := Lib.hid (HB13.out.trans (hb14.mono HB13.out.size))
    clear hb14 HB13
    go_wp2
    go_ret
    exact ⟨rfl, HB14.out⟩
  · rintro e w12 ⟨bk, xs, rfl, hx1, hx2, hx3, hl, hbk, hb12⟩
    have HB12 := Lib.hid (HB11.out.trans (hb12.mono HB11.out.size))
    have Hl := Lib.hid hl
    have Hx1 := Lib.hid hx1
    have hct : s.data.toList.count 47 ≤ s.data.toList.length := List.count_le_length
    have hle : xs.length ≤ 1048577 := by rw [Lib.size_eq] at hs; omega
    clear hb12 d1 HB11 hx1 hx2 hx3 hl hct
    go_wp2_with fail
    refine (d2 _).mono ?_
    rintro e w13 ⟨bk2, c2, ys, rfl, hc2, hy1, hy2, hly, hbk2, hb13⟩
    have Hl2 : Hid (Lies bk xs w13) := Lib.hid ⟨fun j x hj => by rw [hb13.cell (p := ⟨bk, 0 + j, none⟩) Hl.out.block]; exact Hl.out.cells j x hj, Nat.lt_of_lt_of_le Hl.out.block hb13.size⟩
    have HB13 := Lib.hid (HB12.out.trans (hb13.mono HB12.out.size))
    have cT := texts_same bk bk2 xs.length c2 xs ys w13 Hl2.out hly (by rw [Hx1.out, hy1]) hle
    clear hb13 d2 HB12 hy1 hy2 hly
    go_wp2_with fail
    refine cT.mono ?_
    rintro e w14 ⟨rfl, hb14⟩
    have HB14 := Lib.hid (HB13.out.trans (hb14.mono HB13.out.size))
    clear hb14 HB13 cT
    go_wp2
    go_ret
    exact ⟨rfl, HB14.out⟩
end NT
end Go.Proofs.YtnikenhfpgoaoaaDoor
