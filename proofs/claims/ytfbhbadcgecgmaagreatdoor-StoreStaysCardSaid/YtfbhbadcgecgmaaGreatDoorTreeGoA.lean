/- Layer 6: the contracts of the program's under, and of slices.ContainsFunc over hasNoPath. -/
import Derived.Test.YtfbhbadcgecgmaaGreatDoorTreeGo9
namespace Go.Proofs.YtfbhbadcgecgmaaGreatDoor
open Go.RowKit Go.Lib Go.BigFrame
namespace TG
open OM TP TM TR

/-- The first k nodes have their new paths. -/
def undK (p : List UInt8) (v : List Nd) (k : Nat) : List Nd := (v.take k).map (underN p) ++ v.drop k
theorem undK_zero (p : List UInt8) (v : List Nd) : undK p v 0 = v := by unfold undK; simp
theorem undK_end {p : List UInt8} {v : List Nd} {k : Nat} (h : v.length ≤ k) : undK p v k = v.map (underN p) := by
  unfold undK
  rw [List.take_of_length_le h, List.drop_eq_nil_of_le h, List.append_nil]
theorem undK_len (p : List UInt8) (v : List Nd) (k : Nat) : (undK p v k).length = v.length := by
  unfold undK
  rw [List.length_append, List.length_map, List.length_take, List.length_drop]
  omega
theorem undK_two {p : List UInt8} {v : List Nd} {k : Nat} {x : Nd} (hx : v[k]? = some x) : undK p v k = (v.take k).map (underN p) ++ x :: v.drop (k + 1) ∧ undK p v (k + 1) = (v.take k).map (underN p) ++ underN p x :: v.drop (k + 1) ∧ ((v.take k).map (underN p)).length = k := by
  obtain ⟨hk, e⟩ := List.getElem?_eq_some_iff.1 hx
  refine ⟨?_, ?_, by rw [List.length_map, List.length_take]; omega⟩
  · unfold undK
    rw [List.drop_eq_getElem_cons hk, e]
  · unfold undK
    rw [List.take_add_one, hx, Option.toList_some, List.map_append, List.append_assoc]
    rfl
theorem undK_at {p : List UInt8} {v : List Nd} {k : Nat} {x : Nd} (hx : v[k]? = some x) : (undK p v k)[k]? = some x := by
  obtain ⟨e, _, hl⟩ := undK_two (p := p) hx
  rw [e, List.getElem?_append_right (by omega), hl, Nat.sub_self]
  rfl
theorem undK_succ {p : List UInt8} {v : List Nd} {k : Nat} {x : Nd} (hx : v[k]? = some x) : nodesC (undK p v (k + 1)) = (nodesC (undK p v k)).set (k * 4) (txt (underN p x).path) := by
  obtain ⟨e1, e2, hl⟩ := undK_two (p := p) hx
  rw [e1, e2, nodes_app, nodes_app, List.set_append_right _ _ (by rw [nodes_len, hl]; exact Nat.le_refl _), nodes_len, hl, Nat.sub_self]
  rfl
theorem suffix_txt (X T : ByteArray) (l : List UInt8) (hX : X.data.toList = l) (hT : T.data.toList = Lib.trimSuffix l [47]) (hl : X.size ≤ 9223372036854775807) (W : World) :
    Calls Tryz.prog 162 #[.string X, .string ⟨#[47]⟩] W fun e w' => e = .returned (.string T) ∧ w' = W := by
  have := Tryz.strings_TrimSuffix X ⟨#[47]⟩ W hl
  rw [hX, ← hT, show (⟨T.data.toList.toArray⟩ : ByteArray) = T by apply ByteArray.ext; simp] at this
  exact this
set_option maxRecDepth 100000 in
set_option maxHeartbeats 3200000 in
theorem under_any (bo : Option Addr) (cb : Nat) (v : List Nd) (p : List UInt8) (w : World) (h : LayN w bo v) (hno : bo = none → cb = 0) (hs : SmallG v) (hl : v.length ≤ 1000) (hp : p.length ≤ 1048576) :
    Calls Tryz.prog 145 #[txt p, .slice bo v.length cb] w (AtPost (v.map (underN p)) w) := by
  have CC := Lib.hid (clone_any bo cb v w h hno hl)
  obtain ⟨m, hm⟩ : ∃ m, v.length = m := ⟨_, rfl⟩
  have HM := Lib.hid hm
  have HSm := Lib.hid hs
  obtain ⟨S, hS, hSd⟩ := txt_of p
  have HSd := Lib.hid hSd
  have hSs : S.size ≤ 1048576 := by rw [Lib.size_eq, hSd]; exact hp
  rw [hm] at CC hl ⊢
  rw [hS]
  obtain ⟨S1, hS1⟩ : ∃ S1 : ByteArray, S ++ ⟨#[47]⟩ = S1 := ⟨_, rfl⟩
  have hS1d : S1.data.toList = p ++ [47] := by rw [← hS1]; simp [hSd]
  have HS1 := Lib.hid hS1d
  have hS1s : S1.size ≤ 1048577 := by rw [Lib.size_eq, hS1d, List.length_append]; simp; omega
  have hcl0 : S.size + 1 ≤ 9223372036854775807 := by omega
  clear h hno hs hp hm hS hSd hS1d
  go_enter Tryz.func145, Tryz.ntmps145
  repeat (first | (go_at_call 53; fail) | go_skip | go_guarded | go_step | go_upon)
  refine CC.out.mono ?_
  rintro r w1 ⟨u, rfl, hown, hb⟩
  simp only []
  have HB1 := Lib.hid hb
  rw [HM.out] at hown
  obtain ⟨ao5, c5, rfl, _⟩ := owns_view hown
  have HO1 := Lib.hid hown
  have hmz : (m : Int) ≤ 1000 := by omega
  clear hb hown
  repeat (first | go_skip | go_guarded | go_step | go_upon)
  go_loopw [11] (fun s11 wr => ∃ k : Nat, s11 = .int .i64 k ∧ k ≤ m ∧ wr.ownsRow w.heap.size 45 4 (.slice ao5 m c5) m (nodesC (undK p v k)) ∧ Below w.heap.size w wr) (fun s11 _ => m - (Go.RowKit.intOf s11).toNat)
  case atStart => exact ⟨0, rfl, Nat.zero_le _, by rw [undK_zero]; exact HO1.out, HB1.out⟩
  case round =>
    obtain ⟨k, rfl, hk, ho, hb⟩ := hrel
    have HB := Lib.hid hb
    clear hb
    by_cases hlt : k < m
    · have hkz : (k : Int) < m := by omega
      obtain ⟨ao6, c6, e6, hview⟩ := owns_view ho
      obtain ⟨g, hao, hg, hbg, hcell⟩ := hview (by omega)
      simp only [Value.slice.injEq, true_and] at e6
      obtain ⟨rfl, rfl⟩ := e6
      subst hao
      obtain ⟨x, hx⟩ : ∃ x, v[k]? = some x := ⟨v[k]'(by rw [HM.out]; exact hlt), List.getElem?_eq_getElem _⟩
      obtain ⟨n0, n1, n2, n3⟩ := nodes_at _ k x (undK_at (p := p) hx)
      have c0 := (hcell (k * 4) (by omega)).trans n0
      have hfz := ho.frozenAt (k * 4)
      obtain ⟨Q, hQ, hQd⟩ := txt_of x.path
      rw [hQ] at c0
      obtain ⟨T, hT, hTd⟩ := txt_of (underN p x).path
      have HSt := Lib.hid (ho.stored (k * 4) (.string T))
      have hQs : Q.size ≤ 1048576 := by rw [Lib.size_eq, hQd]; exact (HSm.out x (List.mem_of_getElem? hx)).1
      obtain ⟨S2, hS2⟩ : ∃ S2 : ByteArray, S1 ++ Q = S2 := ⟨_, rfl⟩
      have hS2d : S2.data.toList = p ++ 47 :: x.path := by rw [← hS2]; simp [HS1.out, hQd]
      have hS2s : S2.size ≤ 9223372036854775807 := by rw [Lib.size_eq, hS2d, List.length_append, List.length_cons]; have h1 := HSd.out; have h2 := hQd; have h3 := Lib.size_eq S; have h4 := Lib.size_eq Q; rw [h1] at h3; rw [h2] at h4; omega
      have CT := Lib.hid (suffix_txt S2 T (p ++ 47 :: x.path) hS2d hTd hS2s)
      have hcl : S1.size + Q.size ≤ 9223372036854775807 := by omega
      have HK := Lib.hid (undK_succ (p := p) hx)
      rw [hT] at HK
      clear ho hcell hx n0 n1 n2 n3 hQ hQd hT hTd hS2d hS2s hlt hview
      repeat (first
        | (go_at_call 162; refine (CT.out _).mono ?_; rintro r w3 ⟨rfl, rfl⟩; simp only [])
        | go_skip | go_guarded | go_step | go_upon)
      refine ⟨⟨k + 1, by go_num, by omega, ?_, HB.out.setCell (p := ⟨g, k * 4, none⟩) hbg _⟩, by simp [Go.RowKit.intOf]; omega⟩
      rw [HK.out]
      exact HSt.out.1
    · have hkz : ¬ (k : Int) < m := by omega
      have HK : Hid (undK p v k = v.map (underN p)) := Lib.hid (undK_end (by rw [HM.out]; omega))
      have HO := Lib.hid ho
      clear hlt ho
      repeat (first | go_skip | go_guarded | go_step | go_upon)
      go_ret
      refine ⟨_, rfl, ?_, HB.out⟩
      rw [List.length_map, HM.out, ← HK.out]
      exact HO.out
/-- Whether one of them has no path. -/
def badP (v : List Nd) : Bool := v.any fun n => !NP.pathL n.path
set_option maxRecDepth 100000 in
set_option maxHeartbeats 1600000 in
theorem index_any (bo : Option Addr) (cb : Nat) (v : List Nd) (w : World) (he : NF.Env w) (h : LayN w bo v) (hs : SmallG v) (hl : v.length ≤ 1000) :
    Calls Tryz.prog 179 #[.slice bo v.length cb, .func (.func 165) #[] #[]] w fun r w' => ∃ z : Int, r = .returned (.int .i64 z) ∧ decide (0 ≤ z) = badP v ∧ Below w.heap.size w w' := by
  have eg : ∀ args w, (callFunc 165 args).run Tryz.prog w = .ok (.enter 165 args) w := enters_of Tryz.func165 (by kernel_rfl) rfl
  obtain ⟨m, hm⟩ : ∃ m, v.length = m := ⟨_, rfl⟩
  have HM := Lib.hid hm
  have HL := Lib.hid h
  have HS := Lib.hid hs
  have HE := Lib.hid he
  rw [hm] at hl ⊢
  have hmz : (m : Int) ≤ 1000 := by omega
  clear h hs hm he
  go_enter Tryz.func179, Tryz.ntmps179
  repeat (first | go_skip | go_guarded | go_step | go_upon)
  go_loopw [8] (fun s8 wr => ∃ k : Nat, s8 = .int .i64 k ∧ k ≤ m ∧ badP (v.take k) = false ∧ Below w.heap.size w wr) (fun s8 _ => m - (Go.RowKit.intOf s8).toNat)
  case atStart => exact ⟨0, rfl, Nat.zero_le _, rfl, Below.refl _ _⟩
  case round =>
    obtain ⟨k, rfl, hk, hbad, hb⟩ := hrel
    have HB := Lib.hid hb
    have HBd := Lib.hid hbad
    have hbs := hb.size
    have hLr := HL.out.below hb
    clear hbad
    by_cases hlt : k < m
    · have hkz : (k : Int) < m := by omega
      obtain ⟨g, o, rfl, hg, hcell⟩ := hLr (by rw [HM.out]; omega)
      obtain ⟨x, hx⟩ : ∃ x, v[k]? = some x := ⟨v[k]'(by rw [HM.out]; exact hlt), List.getElem?_eq_getElem _⟩
      obtain ⟨c0, c1, c2, c3⟩ := hcell k x hx
      obtain ⟨X, hX, _⟩ := txt_of x.path
      obtain ⟨D, hD, _⟩ := txt_of x.data
      rw [hX] at c0
      rw [hD] at c2
      have cx := noPath_any x wr (HE.out.below hb) (HS.out x (List.mem_of_getElem? hx)).1
      unfold ndVal at cx
      rw [hX, hD] at cx
      obtain ⟨b, hbb⟩ : ∃ b, NP.pathL x.path = b := ⟨_, rfl⟩
      have HBb := Lib.hid hbb
      rw [hbb] at cx
      have HX := Lib.hid hx
      have CX := Lib.hid cx
      clear hb hcell hx hX hD cx hbb hLr hlt
      cases b with
      | true =>
        have HB2 : Hid (badP (v.take (k + 1)) = false) := Lib.hid (by
          unfold badP
          rw [List.take_add_one, HX.out, Option.toList_some, List.any_append]
          have := HBd.out
          unfold badP at this
          rw [this]
          simp [HBb.out])
        repeat (first | (go_at_fn 165; refine CX.out.mono ?_; rintro r w1 ⟨rfl, hb⟩; simp only []; have B1 := Lib.hid (Below.trans HB.out (hb.mono hbs)); clear hb) | go_skip | go_guarded | go_step | go_upon)
        exact ⟨⟨k + 1, by go_num, by omega, HB2.out, B1.out⟩, by simp [Go.RowKit.intOf]; omega⟩
      | false =>
        have HF : Hid (badP v = true) := Lib.hid (by
          unfold badP
          rw [List.any_eq_true]
          exact ⟨x, List.mem_of_getElem? HX.out, by rw [HBb.out]; rfl⟩)
        repeat (first | (go_at_fn 165; refine CX.out.mono ?_; rintro r w1 ⟨rfl, hb⟩; simp only []; have B1 := Lib.hid (Below.trans HB.out (hb.mono hbs)); clear hb) | go_skip | go_guarded | go_step | go_upon)
        go_ret
        exact ⟨_, rfl, by rw [HF.out]; simp, B1.out⟩
    · have hkz : ¬ (k : Int) < m := by omega
      have HF : Hid (badP v = false) := Lib.hid (by
        have := HBd.out
        rw [List.take_of_length_le (by rw [HM.out]; omega)] at this
        exact this)
      clear hlt hb hLr
      repeat (first | go_skip | go_guarded | go_step | go_upon)
      go_ret
      exact ⟨_, rfl, by rw [HF.out]; simp, HB.out⟩
set_option maxRecDepth 100000 in
theorem contains_any (bo : Option Addr) (cb : Nat) (v : List Nd) (w : World) (he : NF.Env w) (h : LayN w bo v) (hs : SmallG v) (hl : v.length ≤ 1000) :
    Calls Tryz.prog 164 #[.slice bo v.length cb, .func (.func 165) #[] #[]] w fun r w' => r = .returned (.bool (badP v)) ∧ Below w.heap.size w w' := by
  have CI := Lib.hid (index_any bo cb v w he h hs hl)
  obtain ⟨m, hm⟩ : ∃ m, v.length = m := ⟨_, rfl⟩
  rw [hm] at CI ⊢
  clear h hs hl hm he
  go_enter Tryz.func164, Tryz.ntmps164
  repeat (first | (go_at_call 179; refine CI.out.mono ?_; rintro r w1 ⟨z, rfl, hz, hb⟩; simp only []; have HZ := Lib.hid hz; have B1 := Lib.hid hb; clear hb hz) | go_skip | go_guarded | go_step | go_upon)
  go_ret
  exact ⟨by rw [← HZ.out]; rfl, B1.out⟩
end TG
end Go.Proofs.YtfbhbadcgecgmaaGreatDoor
