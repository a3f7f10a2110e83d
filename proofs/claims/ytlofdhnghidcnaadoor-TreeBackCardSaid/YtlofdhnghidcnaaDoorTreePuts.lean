/- Layer 6: the walk of TreePuts. -/
import Derived.Test.YtlofdhnghidcnaaDoorTreeLaw2
namespace Go.Proofs.YtlofdhnghidcnaaDoor
open Go.RowKit Go.Lib Go.BigFrame
namespace TL
open OM TP TM TR TG

/-- A list of nodes as it comes in. -/
structure Arg (w : World) (ao : Option Addr) (ca : Nat) (ts : List Nd) : Prop where
  lay : LayN w ao ts
  no : ao = none → ca = 0
  cap : ts.length ≤ ca
  small : SmallG ts
  len : ts.length ≤ 1048576
theorem Arg.nil (w : World) : Arg w none 0 [] := ⟨LayN.nil _ _, fun _ => rfl, Nat.le_refl _, fun n hn => by simp at hn, by simp⟩
theorem Arg.below {w W : World} {ao : Option Addr} {ca : Nat} {ts : List Nd} (h : Arg w ao ca ts) (hb : Below w.heap.size w W) : Arg W ao ca ts := ⟨h.lay.below hb, h.no, h.cap, h.small, h.len⟩
theorem Arg.max {w : World} {ao : Option Addr} {ca : Nat} {ts : List Nd} (h : Arg w ao ca ts) : ts.length ≤ maxLen := by have := h.len; unfold maxLen; omega
theorem Arg.putIn {w : World} {ao bo : Option Addr} {ca cb : Nat} {ts v : List Nd} {p : List UInt8} (h : Arg w ao ca ts) (k : Arg w bo cb v) (hp : p.length ≤ 1048576) : PutIn w ao ts p bo cb v :=
  ⟨h.lay, k.lay, h.small, k.small, h.max, k.max, k.cap, hp⟩
theorem Arg.put {w : World} {ao bo : Option Addr} {ca cb : Nat} {ts v : List Nd} {p : List UInt8} (he : NF.Env w) (h : Arg w ao ca ts) (k : Arg w bo cb v) (hp : p.length ≤ 1048576) :
    Calls Tryd.prog 10 #[.slice ao ts.length ca, txt p, .slice bo v.length cb] w (PutPost (putL ts p v) w) :=
  put_any ao ca ts p bo cb v w he h.lay k.lay h.small k.small h.max k.max h.cap k.cap hp h.no k.no
theorem LentAt.arg {ts : List Nd} {B g c : Nat} {W : World} (h : LentAt ts B g c W) (hs : SmallG ts) (hl : ts.length ≤ 1048576) : Arg W (some ⟨g, 0, none⟩) c ts :=
  ⟨h.lay, fun e => (by cases e), Nat.le_trans (by omega) h.cap, hs, hl⟩
set_option maxRecDepth 100000 in
set_option maxHeartbeats 6400000 in
theorem puts_any (ao bo : Option Addr) (ca cb : Nat) (ts v : List Nd) (p : List UInt8) (w : World) (he : NF.Env w) (hA : Arg w ao ca ts) (hB : Arg w bo cb v) (hp : p.length ≤ 1048576) :
    Calls Tryd.prog 3 #[.slice ao ts.length ca, txt p, .slice bo v.length cb] w fun e w' => e = .returned (.bool true) ∧ Below w.heap.size w w' := by
  have HE := Lib.hid he
  have HA := Lib.hid hA
  have HB := Lib.hid hB
  have HPl := Lib.hid hp
  have cLa := fun W (hW : Below w.heap.size w W) => lent_any ao ca ts W (hA.below hW).lay hA.no hA.len
  have cLb := fun W (hW : Below w.heap.size w W) => lent_any bo cb v W (hB.below hW).lay hB.no hB.len
  have cKa := fun W B g c (hW : Below w.heap.size w W) (h : LentAt ts B g c W) => kept_any ts B g c ao ca W h (hA.below hW).lay hA.len
  have cKb := fun W B g c (hW : Below w.heap.size w W) (h : LentAt v B g c W) => kept_any v B g c bo cb W h (hB.below hW).lay hB.len
  have cP := fun W g1 c1 g2 c2 B1 B2 (hW : Below w.heap.size w W) (h1 : LentAt ts B1 g1 c1 W) (h2 : LentAt v B2 g2 c2 W) => Arg.put (he.below hW) (h1.arg hA.small hA.len) (h2.arg hB.small hB.len) hp
  have cR := fun W (hW : Below w.heap.size w W) => rput_any ao ca ts p bo cb v W ((hA.below hW).putIn (hB.below hW) hp)
  unfold LentPost at cLa cLb
  unfold PutPost at cP cR
  obtain ⟨⟨xs, E⟩, hL⟩ : ∃ L, putL ts p v = L := ⟨_, rfl⟩
  rw [hL] at cP cR
  simp only at cP cR
  obtain ⟨S, hS, _⟩ := txt_of p
  obtain ⟨n, hn⟩ : ∃ n, ts.length = n := ⟨_, rfl⟩
  obtain ⟨m, hm⟩ : ∃ m, v.length = m := ⟨_, rfl⟩
  obtain ⟨k, hk⟩ : ∃ k, xs.length = k := ⟨_, rfl⟩
  have HK := Lib.hid hk
  rw [hn] at cLa cKa cP cR ⊢
  rw [hm] at cLb cKb cP cR ⊢
  rw [hS] at cP cR ⊢
  have CLa := Lib.hid cLa
  have CLb := Lib.hid cLb
  have CKa := Lib.hid cKa
  have CKb := Lib.hid cKb
  have CP := Lib.hid cP
  have CR := Lib.hid cR
  have CA : Hid (∀ W, Below w.heap.size w W → Calls Tryd.prog 8 #[] W fun e w' => e = .returned (.bool true) ∧ Below W.heap.size W w') := Lib.hid (fun W hW => awake_any W (he.below hW))
  clear he hA hB hp cLa cLb cKa cKb cP cR hL hS hn hm hk
  go_enter Tryd.func3, Tryd.ntmps3
  repeat (first
    | (go_at_call 8; refine (CA.out _ (Below.refl _ _)).mono ?_; rintro r w1 ⟨rfl, hb⟩; simp only []; have B1 := Lib.hid hb; clear hb)
    | (go_at_call 9; fail) | go_skip | go_guarded | go_step | go_upon)
  refine (CLa.out _ B1.out).mono ?_
  rintro r w2 ⟨g1, c1, rfl, h1, hb⟩
  simp only []
  have B2 := Lib.hid (Below.trans B1.out (hb.mono B1.out.size))
  have H1 := Lib.hid h1
  clear hb h1
  repeat (first | (go_at_call 9; fail) | go_skip | go_guarded | go_step | go_upon)
  refine (CLb.out _ B2.out).mono ?_
  rintro r w3 ⟨g2, c2, rfl, h2, hb⟩
  simp only []
  have B3 := Lib.hid (Below.trans B2.out (hb.mono B2.out.size))
  have H2 := Lib.hid h2
  have H13 := Lib.hid (H1.out.below hb)
  clear hb h2 H1
  repeat (first | (go_at_call 10; fail) | go_skip | go_guarded | go_step | go_upon)
  refine (CP.out _ _ _ _ _ _ _ B3.out H13.out H2.out).mono ?_
  rintro r w4 ⟨u, rfl, hown, hb⟩
  simp only []
  have W34 := Lib.hid hb
  have B4 := Lib.hid (Below.trans B3.out (hb.mono B3.out.size))
  rw [HK.out] at hown
  have hkl := owns_len hown
  unfold maxLen at hkl
  have hkz : (k : Int) ≤ 9223372036854775807 := by omega
  obtain ⟨ax, cx, rfl, _⟩ := owns_view hown
  have HX := Lib.hid hown
  clear hb hown
  repeat (first | (go_at_call 11; fail) | go_skip | go_guarded | go_step | go_upon)
  refine (CR.out _ B4.out).mono ?_
  rintro r w5 ⟨u, rfl, hown, hb⟩
  simp only []
  have W35 := Lib.hid (Below.trans W34.out (hb.mono W34.out.size))
  have B5 := Lib.hid (Below.trans B4.out (hb.mono B4.out.size))
  have HX5 := Lib.hid (owns_below HX.out hb)
  rw [HK.out] at hown
  obtain ⟨ay, cy, rfl, _⟩ := owns_view hown
  have lay_k : ∀ {W : World} {B : Nat} {a : Option Addr} {c : Nat}, W.ownsRow B 32 4 (.slice a k c) k (nodesC xs) → LayN W a xs := fun {W B a c} h => by
    rw [← HK.out] at h
    obtain ⟨a', c', e, hl⟩ := lay_own h
    simp only [Value.slice.injEq, true_and] at e
    rw [e.1]
    exact hl
  have cS := rsame_any ax ay cx cy xs xs w5 (lay_k HX5.out) (lay_k hown) (by rw [HK.out]; unfold maxLen; omega) (by rw [HK.out]; unfold maxLen; omega)
  rw [HK.out, decide_eq_true (rfl : xs = xs)] at cS
  have CS := Lib.hid cS
  have hEE : ((E : Int) != (E : Int)) = false := by simp
  clear hb hown lay_k cS HX
  repeat (first
    | (go_at_call 12; refine CS.out.mono ?_; rintro r w6 ⟨rfl, hb⟩; simp only []; have W36 := Lib.hid (Below.trans W35.out (hb.mono W35.out.size)); have B6 := Lib.hid (Below.trans B5.out (hb.mono B5.out.size)); have HX6 := Lib.hid (owns_below HX5.out hb); clear hb)
    | (go_at_call_of 13 (Value.slice (some ⟨g1, 0, none⟩) n c1); refine (CKa.out _ _ _ _ B6.out (H13.out.below W36.out)).mono ?_; rintro r w7 ⟨rfl, hb⟩; simp only []; have W37 := Lib.hid (Below.trans W36.out (hb.mono W36.out.size)); have B7 := Lib.hid (Below.trans B6.out (hb.mono B6.out.size)); have HX7 := Lib.hid (owns_below HX6.out hb); clear hb)
    | (go_at_call_of 13 (Value.slice (some ⟨g2, 0, none⟩) m c2); refine (CKb.out _ _ _ _ B7.out (H2.out.below W37.out)).mono ?_; rintro r w8 ⟨rfl, hb⟩; simp only []; have W38 := Lib.hid (Below.trans W37.out (hb.mono W37.out.size)); have HX8 := Lib.hid (owns_below HX7.out hb); clear hb)
    | go_skip | go_guarded | go_step | go_upon)
  go_loopw [57] (fun s57 wr => ∃ (i : Nat) (zs : List Value), s57 = .int .i64 i ∧ i ≤ k ∧ wr.ownsRow w3.heap.size 32 4 (.slice ax k cx) k zs ∧ Below w3.heap.size w3 wr) (fun s57 _ => k - (Go.RowKit.intOf s57).toNat)
  case atStart => exact ⟨0, _, rfl, Nat.zero_le _, HX8.out, W38.out⟩
  case round =>
    obtain ⟨i, zs, rfl, hi, ho, hb⟩ := hrel
    have HBr := Lib.hid hb
    by_cases hlt : i < k
    · have hiz : (i : Int) < k := by omega
      obtain ⟨ax2, cx2, e2, hv⟩ := owns_view ho
      obtain ⟨g, hax, hg, hbg, hcell⟩ := hv (by omega)
      simp only [Value.slice.injEq, true_and] at e2
      obtain ⟨rfl, rfl⟩ := e2
      subst hax
      have hzl : zs.length = k * 4 := ho.1
      obtain ⟨zv, hzv⟩ : ∃ zv, zs[i * 4 + 1]? = some zv := ⟨zs[i * 4 + 1]'(by omega), List.getElem?_eq_getElem _⟩
      have c1' := (hcell (i * 4 + 1) (by omega)).trans hzv
      have hfz := ho.frozenAt (i * 4 + 1)
      have HSt := Lib.hid (ho.stored (i * 4 + 1) (.int .i64 7))
      clear hb ho hcell hzl hzv hv hlt
      repeat (first | go_skip | go_guarded | go_step | go_upon)
      exact ⟨⟨i + 1, _, by go_num, by omega, HSt.out.1, HBr.out.setCell (p := ⟨g, i * 4 + 1, none⟩) hbg _⟩, by simp [Go.RowKit.intOf]; omega⟩
    · have hiz : ¬ (i : Int) < k := by omega
      have Br := Lib.hid (Below.trans B3.out (hb.mono B3.out.size))
      clear hb ho hlt
      repeat (first
        | (go_at_call_of 13 (Value.slice (some ⟨g1, 0, none⟩) n c1); refine (CKa.out _ _ _ _ Br.out (H13.out.below HBr.out)).mono ?_; rintro r w9 ⟨rfl, hb⟩; simp only []; have W39 := Lib.hid (Below.trans HBr.out (hb.mono HBr.out.size)); have B9 := Lib.hid (Below.trans Br.out (hb.mono Br.out.size)); clear hb)
        | (go_at_call_of 13 (Value.slice (some ⟨g2, 0, none⟩) m c2); refine (CKb.out _ _ _ _ B9.out (H2.out.below W39.out)).mono ?_; rintro r wz ⟨rfl, hb⟩; simp only []; have Bz := Lib.hid (Below.trans B9.out (hb.mono B9.out.size)); clear hb)
        | go_skip | go_guarded | go_step | go_upon)
      go_ret
      exact ⟨rfl, Bz.out⟩
end TL
end Go.Proofs.YtlofdhnghidcnaaDoor
