/- Layer 6: the walk of TreePairs. -/
import Derived.Test.YtlofdhnghidcnaaDoorTreePuts
namespace Go.Proofs.YtlofdhnghidcnaaDoor
open Go.RowKit Go.Lib Go.BigFrame
namespace TL
open OM TP TM TR TG

theorem Arg.check {w : World} {ao : Option Addr} {ca : Nat} {ts : List Nd} (he : NF.Env w) (h : Arg w ao ca ts) :
    Calls Tryd.prog 18 #[.slice ao ts.length ca] w fun r w' => r = .returned (.int .i64 (checkG ts : Nat)) ∧ Below w.heap.size w w' := check_any ao ca ts w he h.lay h.small h.max h.cap
theorem Arg.same {w : World} {ao bo : Option Addr} {ca cb : Nat} {xs ys : List Nd} (h : Arg w ao ca xs) (k : Arg w bo cb ys) :
    Calls Tryd.prog 14 #[.slice ao xs.length ca, .slice bo ys.length cb] w fun r w' => r = .returned (.bool (decide (xs = ys))) ∧ Below w.heap.size w w' := same_any ao bo ca cb xs ys w h.lay k.lay h.max k.max
theorem Arg.differ {w : World} {ao bo : Option Addr} {ca cb : Nat} {xs ys : List Nd} (he : NF.Env w) (h : Arg w ao ca xs) (k : Arg w bo cb ys) :
    Calls Tryd.prog 16 #[.slice ao xs.length ca, .slice bo ys.length cb] w (DiffPost xs ys w) := differ_any ao bo ca cb xs ys w he h.lay k.lay h.small k.small h.max k.max h.cap k.cap h.no k.no
theorem differ_len (a b : List Nd) : (differL a b).length ≤ a.length + b.length := by
  unfold differL
  split
  · exact diff_len a b
  · exact Nat.zero_le _
theorem differ_none {a b : List Nd} (ha : treeB a = true) (hb : treeB b = true) : ((((differL a b).length : Nat) : Int) == 0) = decide (a = b) := by
  unfold differL
  rw [if_pos ⟨ha, hb⟩, Bool.eq_iff_iff]
  simp only [beq_iff_eq, decide_eq_true_eq]
  constructor
  · intro h
    exact diffM_nil (List.length_eq_zero_iff.1 (by omega))
  · rintro rfl
    rw [diffM_self]
    rfl
set_option maxRecDepth 100000 in
set_option maxHeartbeats 6400000 in
theorem pairs_any (ao bo : Option Addr) (ca cb : Nat) (xs ys : List Nd) (w : World) (he : NF.Env w) (hA : Arg w ao ca xs) (hB : Arg w bo cb ys) :
    Calls Tryd.prog 4 #[.slice ao xs.length ca, .slice bo ys.length cb] w fun e w' => e = .returned (.bool true) ∧ Below w.heap.size w w' := by
  have cS := fun W (hW : Below w.heap.size w W) => Arg.same (hA.below hW) (hB.below hW)
  have cRS := fun W (hW : Below w.heap.size w W) => rsame_any ao bo ca cb xs ys W (hA.below hW).lay (hB.below hW).lay hA.max hB.max
  have cD := fun W (hW : Below w.heap.size w W) => Arg.differ (he.below hW) (hA.below hW) (hB.below hW)
  have cRD := fun W (hW : Below w.heap.size w W) => rdiffer_any ao bo ca cb xs ys W (hA.below hW).lay (hB.below hW).lay hA.small hB.small hA.max hB.max
  have cCa := fun W (hW : Below w.heap.size w W) => (hA.below hW).check (he.below hW)
  have cCb := fun W (hW : Below w.heap.size w W) => (hB.below hW).check (he.below hW)
  have hEt := checkG_zero xs
  have hFt := checkG_zero ys
  have hlen : (differL xs ys).length ≤ 2097152 := by have := differ_len xs ys; have := hA.len; have := hB.len; omega
  have hnone : treeB xs = true → treeB ys = true → ((((differL xs ys).length : Nat) : Int) == 0) = decide (xs = ys) := differ_none
  obtain ⟨d, hd⟩ : ∃ d, decide (xs = ys) = d := ⟨_, rfl⟩
  obtain ⟨n, hn⟩ : ∃ n, xs.length = n := ⟨_, rfl⟩
  obtain ⟨m, hm⟩ : ∃ m, ys.length = m := ⟨_, rfl⟩
  obtain ⟨E, hE⟩ : ∃ E, checkG xs = E := ⟨_, rfl⟩
  obtain ⟨F, hF⟩ : ∃ F, checkG ys = F := ⟨_, rfl⟩
  unfold DiffPost at cD cRD
  obtain ⟨L, hL⟩ : ∃ L, differL xs ys = L := ⟨_, rfl⟩
  obtain ⟨l, hl⟩ : ∃ l, L.length = l := ⟨_, rfl⟩
  have HLl := Lib.hid hl
  rw [hd, hL] at hnone
  rw [hn, hm, hd] at cS cRS
  rw [hn, hm, hL] at cD cRD
  rw [hn, hE] at cCa
  rw [hm, hF] at cCb
  rw [hE] at hEt
  rw [hF] at hFt
  rw [hL, hl] at hlen
  rw [hl] at hnone cD cRD
  rw [hn, hm]
  have hlz : (l : Int) ≤ 2097152 := by omega
  have CT : Hid (∀ W a1 a2 c1 c2, LayS W a1 L → LayS W a2 L → Calls Tryd.prog 15 #[.slice a1 l c1, .slice a2 l c2] W fun e w' => e = .returned (.bool true) ∧ Below W.heap.size W w') := Lib.hid (fun W a1 a2 c1 c2 h1 h2 => by
    have := texts_same a1 a2 c1 c2 L W h1 h2 (by rw [hl]; unfold maxLen; omega)
    rw [hl] at this
    exact this)
  have CA : Hid (∀ W, Below w.heap.size w W → Calls Tryd.prog 8 #[] W fun e w' => e = .returned (.bool true) ∧ Below W.heap.size W w') := Lib.hid (fun W hW => awake_any W (he.below hW))
  have lay_l : ∀ (W : World) (B : Nat) (v : Value), W.ownsRow B 9 1 v l (L.map txt) → ∃ a c, v = .slice a l c ∧ LayS W a L := fun W B v h => by
    have := lays_of (w := W) (B := B) (v := v) (ls := L) (by rw [hl]; exact h)
    rw [hl] at this
    exact this
  have HLy := Lib.hid lay_l
  have CS := Lib.hid cS
  have CRS := Lib.hid cRS
  have CD := Lib.hid cD
  have CRD := Lib.hid cRD
  have CCa := Lib.hid cCa
  have CCb := Lib.hid cCb
  have HNn := Lib.hid hnone
  clear he hA hB cS cRS cD cRD cCa cCb hd hn hm hE hF hL hl lay_l hnone
  have hdd : (d == d) = true := by simp
  by_cases e1 : (E : Int) = 0
  · have hEb : ((E : Int) != 0) = false := by simp [e1]
    by_cases f1 : (F : Int) = 0
    · have hFb : ((F : Int) != 0) = false := by simp [f1]
      have hbl := HNn.out (hEt.1 e1) (hFt.1 f1)
      clear e1 f1 hEt hFt
      go_enter Tryd.func4, Tryd.ntmps4
      repeat (first
        | (go_at_call 8; refine (CA.out _ (Below.refl _ _)).mono ?_; rintro r w1 ⟨rfl, hb⟩; simp only []; have B1 := Lib.hid hb; clear hb)
        | (go_at_call 14; refine (CS.out _ B1.out).mono ?_; rintro r w2 ⟨rfl, hb⟩; simp only []; have B2 := Lib.hid (Below.trans B1.out (hb.mono B1.out.size)); clear hb)
        | (go_at_call 12; refine (CRS.out _ B2.out).mono ?_; rintro r w3 ⟨rfl, hb⟩; simp only []; have B3 := Lib.hid (Below.trans B2.out (hb.mono B2.out.size)); clear hb)
        | (go_at_call 16; fail) | go_skip | go_guarded | go_step | go_upon)
      refine (CD.out _ B3.out).mono ?_
      rintro r w4 ⟨u, rfl, ho, hb⟩
      simp only []
      have B4 := Lib.hid (Below.trans B3.out (hb.mono B3.out.size))
      obtain ⟨a1, c1, rfl, hl1⟩ := HLy.out _ _ _ ho
      have H1 := Lib.hid hl1
      clear hb ho hl1
      repeat (first | (go_at_call 17; fail) | go_skip | go_guarded | go_step | go_upon)
      refine (CRD.out _ B4.out).mono ?_
      rintro r w5 ⟨u, rfl, ho, hb⟩
      simp only []
      have B5 := Lib.hid (Below.trans B4.out (hb.mono B4.out.size))
      obtain ⟨a2, c2, rfl, hl2⟩ := HLy.out _ _ _ ho
      have CT5 := Lib.hid (CT.out w5 a1 a2 c1 c2 (H1.out.below hb) hl2)
      clear hb ho hl2
      repeat (first
        | (go_at_call 15; refine CT5.out.mono ?_; rintro r w6 ⟨rfl, hb⟩; simp only []; have B6 := Lib.hid (Below.trans B5.out (hb.mono B5.out.size)); clear hb)
        | (go_at_call_of 18 (Value.slice ao n ca); refine (CCa.out _ B6.out).mono ?_; rintro r w7 ⟨rfl, hb⟩; simp only []; have B7 := Lib.hid (Below.trans B6.out (hb.mono B6.out.size)); clear hb)
        | (go_at_call_of 18 (Value.slice bo m cb); refine (CCb.out _ B7.out).mono ?_; rintro r w8 ⟨rfl, hb⟩; simp only []; have B8 := Lib.hid (Below.trans B7.out (hb.mono B7.out.size)); clear hb)
        | (go_at_call 14; refine (CS.out _ B8.out).mono ?_; rintro r w9 ⟨rfl, hb⟩; simp only []; have B9 := Lib.hid (Below.trans B8.out (hb.mono B8.out.size)); clear hb)
        | (go_at_call 16; refine (CD.out _ B9.out).mono ?_; rintro r wz ⟨u, rfl, ho, hb⟩; simp only []; have Bz := Lib.hid (Below.trans B9.out (hb.mono B9.out.size)); obtain ⟨a3, c3, rfl, _⟩ := owns_view ho; clear hb ho)
        | go_skip | go_guarded | go_step | go_upon)
      go_ret
      exact ⟨rfl, Bz.out⟩
    · have hFb : ((F : Int) != 0) = true := by simp; omega
      clear e1 f1 hEt hFt HNn
      go_enter Tryd.func4, Tryd.ntmps4
      repeat (first
        | (go_at_call 8; refine (CA.out _ (Below.refl _ _)).mono ?_; rintro r w1 ⟨rfl, hb⟩; simp only []; have B1 := Lib.hid hb; clear hb)
        | (go_at_call 14; refine (CS.out _ B1.out).mono ?_; rintro r w2 ⟨rfl, hb⟩; simp only []; have B2 := Lib.hid (Below.trans B1.out (hb.mono B1.out.size)); clear hb)
        | (go_at_call 12; refine (CRS.out _ B2.out).mono ?_; rintro r w3 ⟨rfl, hb⟩; simp only []; have B3 := Lib.hid (Below.trans B2.out (hb.mono B2.out.size)); clear hb)
        | (go_at_call 16; fail) | go_skip | go_guarded | go_step | go_upon)
      refine (CD.out _ B3.out).mono ?_
      rintro r w4 ⟨u, rfl, ho, hb⟩
      simp only []
      have B4 := Lib.hid (Below.trans B3.out (hb.mono B3.out.size))
      obtain ⟨a1, c1, rfl, hl1⟩ := HLy.out _ _ _ ho
      have H1 := Lib.hid hl1
      clear hb ho hl1
      repeat (first | (go_at_call 17; fail) | go_skip | go_guarded | go_step | go_upon)
      refine (CRD.out _ B4.out).mono ?_
      rintro r w5 ⟨u, rfl, ho, hb⟩
      simp only []
      have B5 := Lib.hid (Below.trans B4.out (hb.mono B4.out.size))
      obtain ⟨a2, c2, rfl, hl2⟩ := HLy.out _ _ _ ho
      have CT5 := Lib.hid (CT.out w5 a1 a2 c1 c2 (H1.out.below hb) hl2)
      clear hb ho hl2
      repeat (first
        | (go_at_call 15; refine CT5.out.mono ?_; rintro r w6 ⟨rfl, hb⟩; simp only []; have B6 := Lib.hid (Below.trans B5.out (hb.mono B5.out.size)); clear hb)
        | (go_at_call_of 18 (Value.slice ao n ca); refine (CCa.out _ B6.out).mono ?_; rintro r w7 ⟨rfl, hb⟩; simp only []; have B7 := Lib.hid (Below.trans B6.out (hb.mono B6.out.size)); clear hb)
        | (go_at_call_of 18 (Value.slice bo m cb); refine (CCb.out _ B7.out).mono ?_; rintro r w8 ⟨rfl, hb⟩; simp only []; have B8 := Lib.hid (Below.trans B7.out (hb.mono B7.out.size)); clear hb)
        | go_skip | go_guarded | go_step | go_upon)
      go_ret
      exact ⟨rfl, B8.out⟩
  · have hEb : ((E : Int) != 0) = true := by simp; omega
    clear e1 hEt hFt HNn
    go_enter Tryd.func4, Tryd.ntmps4
    repeat (first
      | (go_at_call 8; refine (CA.out _ (Below.refl _ _)).mono ?_; rintro r w1 ⟨rfl, hb⟩; simp only []; have B1 := Lib.hid hb; clear hb)
      | (go_at_call 14; refine (CS.out _ B1.out).mono ?_; rintro r w2 ⟨rfl, hb⟩; simp only []; have B2 := Lib.hid (Below.trans B1.out (hb.mono B1.out.size)); clear hb)
      | (go_at_call 12; refine (CRS.out _ B2.out).mono ?_; rintro r w3 ⟨rfl, hb⟩; simp only []; have B3 := Lib.hid (Below.trans B2.out (hb.mono B2.out.size)); clear hb)
      | (go_at_call 16; fail) | go_skip | go_guarded | go_step | go_upon)
    refine (CD.out _ B3.out).mono ?_
    rintro r w4 ⟨u, rfl, ho, hb⟩
    simp only []
    have B4 := Lib.hid (Below.trans B3.out (hb.mono B3.out.size))
    obtain ⟨a1, c1, rfl, hl1⟩ := HLy.out _ _ _ ho
    have H1 := Lib.hid hl1
    clear hb ho hl1
    repeat (first | (go_at_call 17; fail) | go_skip | go_guarded | go_step | go_upon)
    refine (CRD.out _ B4.out).mono ?_
    rintro r w5 ⟨u, rfl, ho, hb⟩
    simp only []
    have B5 := Lib.hid (Below.trans B4.out (hb.mono B4.out.size))
    obtain ⟨a2, c2, rfl, hl2⟩ := HLy.out _ _ _ ho
    have CT5 := Lib.hid (CT.out w5 a1 a2 c1 c2 (H1.out.below hb) hl2)
    clear hb ho hl2
    repeat (first
      | (go_at_call 15; refine CT5.out.mono ?_; rintro r w6 ⟨rfl, hb⟩; simp only []; have B6 := Lib.hid (Below.trans B5.out (hb.mono B5.out.size)); clear hb)
      | (go_at_call_of 18 (Value.slice ao n ca); refine (CCa.out _ B6.out).mono ?_; rintro r w7 ⟨rfl, hb⟩; simp only []; have B7 := Lib.hid (Below.trans B6.out (hb.mono B6.out.size)); clear hb)
      | go_skip | go_guarded | go_step | go_upon)
    go_ret
    exact ⟨rfl, B7.out⟩
end TL
end Go.Proofs.YtlofdhnghidcnaaDoor
