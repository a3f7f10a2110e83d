/- Layer 14: Make: the steps that tell a text by blocks. -/
import Derived.Test.YtmpmmebmhffaeaaDoorQDlAll
set_option linter.all false
set_option maxRecDepth 100000
set_option maxHeartbeats 25600000
namespace Go.Proofs.YtmpmmebmhffaeaaDoor
open Go.RowKit Go.Lib Go.BigFrame Go.Maps
namespace DM
open OM DL HP HS

theorem row5 {W : World} {B : Nat} {x0 x1 x2 x3 x4 : Value} {T : TypeId} (h : W.heap[B]? = some (.cells #[x0, x1, x2, x3, x4] T (0, 0))) : W.cell? ⟨B, 0, none⟩ = some x0 ∧ W.cell? ⟨B, 1, none⟩ = some x1 ∧ W.cell? ⟨B, 2, none⟩ = some x2 ∧ W.cell? ⟨B, 3, none⟩ = some x3 ∧ W.cell? ⟨B, 4, none⟩ = some x4 ∧ ∀ j, W.frozen? ⟨B, j, none⟩ = false := by
  refine ⟨by simp [World.cell?, h], by simp [World.cell?, h], by simp [World.cell?, h], by simp [World.cell?, h], by simp [World.cell?, h], fun j => Lib.frozen_of_heap h j⟩
def winV (s : ByteArray) (sz f u k : Nat) : Value := .agg #[.string s, .int .i64 sz, .int .i64 f, .int .i64 u, .int .u32 k]
theorem below5 {B : Nat} {w W : World} {g : Nat} (h : Below B w W) (hg : B ≤ g) (x0 x1 x2 x3 x4 : Value) : Below B w (((((W.setCell ⟨g, 0, none⟩ x0).setCell ⟨g, 1, none⟩ x1).setCell ⟨g, 2, none⟩ x2).setCell ⟨g, 3, none⟩ x3).setCell ⟨g, 4, none⟩ x4) :=
  ((((h.setCell (p := ⟨g, 0, none⟩) hg x0).setCell (p := ⟨g, 1, none⟩) hg x1).setCell (p := ⟨g, 2, none⟩) hg x2).setCell (p := ⟨g, 3, none⟩) hg x3).setCell (p := ⟨g, 4, none⟩) hg x4
set_option maxRecDepth 100000 in
set_option maxHeartbeats 3200000 in
theorem open_any (s : ByteArray) (sz : Nat) (w : World) (hz : sz ≤ 65536) (hs : s.size ≤ 1048576) :
    Calls Tryd.prog 22 #[.string s, .int .i64 sz] w fun r w' => r = .returned (.agg #[.string s, .int .i64 sz, .int .i64 0, .int .i64 (min sz s.size : Nat), .int .u32 (weakL (s.extract 0 (min sz s.size)).data.toList : Nat)]) ∧ Below w.heap.size w w' := by
  have CP : Hid (∀ B W, WinAt B s sz 0 0 0 W → Calls Tryd.prog 34 #[ptr B] W fun r w' => r = .returned (.tuple #[]) ∧ WinAt B s sz 0 (min sz s.size) (weakL (s.extract 0 (min sz s.size)).data.toList) w' ∧ WOut B W w') := Lib.hid (fun B W hW => by
    have := pass_any B s sz 0 0 0 W hW (Nat.zero_le _) hz hs
    rw [Nat.zero_add] at this
    exact this)
  obtain ⟨v, hv⟩ : ∃ v, min sz s.size = v := ⟨_, rfl⟩
  rw [hv] at CP ⊢
  obtain ⟨k, hk⟩ : ∃ k, weakL (s.extract 0 v).data.toList = k := ⟨_, rfl⟩
  rw [hk] at CP ⊢
  clear hk hv
  go_enter Tryd.func22, Tryd.ntmps22
  repeat (first | go_skip | go_guarded | go_step | go_upon)
  have R0 : Hid (((w.alloc (.cells #[.string ⟨#[]⟩, .int .i64 0, .int .i64 0, .int .i64 0, .int .u32 0] 59)).alloc (.cells #[.string s, .int .i64 sz, .int .i64 0, .int .i64 0, .int .u32 0] 59)).heap[w.heap.size]? = some (.cells #[.string ⟨#[]⟩, .int .i64 0, .int .i64 0, .int .i64 0, .int .u32 0] 59 (0, 0))) := Lib.hid (row_keep (heap_alloc_new w _) ((Below.refl _ _).alloc (Nat.le_refl _) _))
  have R1 : Hid (((w.alloc (.cells #[.string ⟨#[]⟩, .int .i64 0, .int .i64 0, .int .i64 0, .int .u32 0] 59)).alloc (.cells #[.string s, .int .i64 sz, .int .i64 0, .int .i64 0, .int .u32 0] 59)).heap[w.heap.size + 1]? = some (.cells #[.string s, .int .i64 sz, .int .i64 0, .int .i64 0, .int .u32 0] 59 (0, 0))) := Lib.hid (by
    have := heap_alloc_new (w.alloc (.cells #[.string ⟨#[]⟩, .int .i64 0, .int .i64 0, .int .i64 0, .int .u32 0] 59)) (.cells #[.string s, .int .i64 sz, .int .i64 0, .int .i64 0, .int .u32 0] 59)
    rw [World.size_alloc] at this
    exact this)
  have HB : Hid (Below w.heap.size w ((w.alloc (.cells #[.string ⟨#[]⟩, .int .i64 0, .int .i64 0, .int .i64 0, .int .u32 0] 59)).alloc (.cells #[.string s, .int .i64 sz, .int .i64 0, .int .i64 0, .int .u32 0] 59))) := Lib.hid (((Below.refl _ _).alloc (Nat.le_refl _) _).alloc (by rw [World.size_alloc]; omega) _)
  generalize (w.alloc (.cells #[.string ⟨#[]⟩, .int .i64 0, .int .i64 0, .int .i64 0, .int .u32 0] 59)).alloc (.cells #[.string s, .int .i64 sz, .int .i64 0, .int .i64 0, .int .u32 0] 59) = w1 at R0 R1 HB ⊢
  have HW : Hid (WinAt (w.heap.size + 1) s sz 0 0 0 w1) := Lib.hid (by
    obtain ⟨a0, a1, a2, a3, a4, az⟩ := row5 R1.out
    exact ⟨a0, a1, a2, a3, a4, az, (Array.getElem?_eq_some_iff.1 R1.out).1⟩)
  refine (CP.out _ _ HW.out).mono ?_
  rintro r w2 ⟨rfl, hw2, ho2⟩
  simp only []
  have HW2 := Lib.hid hw2
  have R2 := Lib.hid (ho2.out.row R0.out (by omega))
  have HB2 := Lib.hid (HB.out.trans (ho2.out.below (B := w.heap.size) (fun k hk _ e => by omega) HB.out.size))
  clear hw2 ho2
  obtain ⟨c0, c1, c2, c3, c4, z, lt⟩ := HW2.out
  obtain ⟨t0, t1, t2, t3, t4, tz⟩ := row5 R2.out
  have z0 := tz 0
  have z1 := tz 1
  have z2 := tz 2
  have z3 := tz 3
  have z4 := tz 4
  clear z tz
  repeat (first | go_skip | go_guarded | go_step | go_upon)
  refine bodyPost_ret (v := .agg #[.string s, .int .i64 sz, .int .i64 0, .int .i64 v, .int .u32 k]) ?_ rfl ⟨rfl, below5 HB2.out (Nat.le_refl _) _ _ _ _ _⟩
  rw [results_cell1 rfl]
  go_simp
theorem row9 {W : World} {B : Nat} {x0 x1 x2 x3 x4 x5 x6 x7 x8 : Value} {T : TypeId} (h : W.heap[B]? = some (.cells #[x0, x1, x2, x3, x4, x5, x6, x7, x8] T (0, 0))) : W.cell? ⟨B, 0, none⟩ = some x0 ∧ W.cell? ⟨B, 1, none⟩ = some x1 ∧ W.cell? ⟨B, 2, none⟩ = some x2 ∧ W.cell? ⟨B, 3, none⟩ = some x3 ∧ W.cell? ⟨B, 4, none⟩ = some x4 ∧ W.cell? ⟨B, 5, none⟩ = some x5 ∧ W.cell? ⟨B, 6, none⟩ = some x6 ∧ W.cell? ⟨B, 7, none⟩ = some x7 ∧ W.cell? ⟨B, 8, none⟩ = some x8 ∧ ∀ j, W.frozen? ⟨B, j, none⟩ = false := by
  refine ⟨by simp [World.cell?, h], by simp [World.cell?, h], by simp [World.cell?, h], by simp [World.cell?, h], by simp [World.cell?, h], by simp [World.cell?, h], by simp [World.cell?, h], by simp [World.cell?, h], by simp [World.cell?, h], fun j => Lib.frozen_of_heap h j⟩
set_option maxRecDepth 100000 in
set_option maxHeartbeats 3200000 in
theorem make_any (s : ByteArray) (sz : Nat) (bs : List Bk) (ao : Option Addr) (c : Nat) (w : World) (he : HQ.Env w) (hl : LayB w ao bs) (hz1 : 1 ≤ sz) (hz2 : sz ≤ 65536) (hs : s.size ≤ 1048576) (hn : bs.length ≤ 4194304) (hb : ∀ b ∈ bs, BkOk b) :
    Calls Tryd.prog 9 #[.string s, .slice ao bs.length c, .int .i64 sz] w fun r w' => ∃ v, r = .returned (.tuple #[v, .int .i64 0]) ∧ w'.ownsRow w.heap.size 46 3 v (makeL s.data.toList bs sz).length (opC (makeL s.data.toList bs sz)) ∧ Below w.heap.size w w' := by
  have CZ : Hid (∀ W, Calls Tryd.prog 15 #[.int .i64 sz] W fun r w' => r = .returned (.bool true) ∧ W = w') := Lib.hid (fun W => by
    have := isSize_any (sz : Int) W
    rw [decide_eq_true ⟨by omega, by omega⟩] at this
    exact this)
  have CO := Lib.hid (open_any s sz w hz2 hs)
  have CK : Hid (∀ W, Below w.heap.size w W → Calls Tryd.prog 23 #[.slice ao bs.length c] W fun r w' => ∃ b1 b2 f, r = .returned (.agg #[.map (some b1), .map (some b2)]) ∧ MapW w' b1 bs.length f ∧ KnowOk bs f ∧ MapB w' b2 bs.length (firstF bs) ∧ W.heap.size ≤ b1 ∧ W.heap.size ≤ b2 ∧ b1 ≠ b2 ∧ Below W.heap.size W w') := Lib.hid (fun W hW => know_any bs ao c W (hl.below hW) hn hb)
  have HE : Hid (∀ W, Below w.heap.size w W → HQ.Env W) := Lib.hid (fun W hW => he.below hW)
  obtain ⟨R, hR⟩ : ∃ R, makeL s.data.toList bs sz = R := ⟨_, rfl⟩
  rw [hR]
  have HR := Lib.hid hR
  obtain ⟨v, hv⟩ : ∃ v, min sz s.size = v := ⟨_, rfl⟩
  have HV := Lib.hid hv
  rw [hv] at CO
  obtain ⟨k, hk⟩ : ∃ k, weakL (s.extract 0 v).data.toList = k := ⟨_, rfl⟩
  have HK := Lib.hid hk
  rw [hk] at CO
  obtain ⟨n, hnn⟩ : ∃ n, bs.length = n := ⟨_, rfl⟩
  have HN := Lib.hid hnn
  rw [hnn] at CK ⊢
  clear he hl hb hR hv hk hnn
  go_enter Tryd.func9, Tryd.ntmps9
  repeat (first | go_skip | go_guarded | go_step | go_upon)
  refine (CZ.out _).mono ?_
  rintro r w1 ⟨rfl, rfl⟩
  simp only []
  repeat (first | go_skip | go_guarded | go_step | go_upon)
  refine CO.out.mono ?_
  rintro r w2 ⟨rfl, hb2⟩
  simp only []
  have HB2 := Lib.hid hb2
  clear hb2 CO
  repeat (first | go_skip | go_guarded | go_step | go_upon)
  refine (CK.out _ HB2.out).mono ?_
  rintro r w3 ⟨b1, b2, f, rfl, hm1, hok, hm2, hg1, hg2, hne, hb3⟩
  simp only []
  have HB3 := Lib.hid (HB2.out.trans (hb3.mono HB2.out.size))
  have HM1 := Lib.hid hm1
  have HM2 := Lib.hid hm2
  have HOK := Lib.hid hok
  have HG := Lib.hid (And.intro hg1 (And.intro hg2 hne))
  have HS2 := Lib.hid HB2.out.size
  clear hm1 hm2 hok hg1 hg2 hne hb3
  repeat (first | go_skip | go_guarded | go_step | go_upon)
  have R1 : Hid ((w3.alloc (.cells #[.string s, .int .i64 sz, .int .i64 0, .int .i64 v, .int .u32 k, .map (some b1), .map (some b2), .slice none 0 0, .int .i64 0] 67)).heap[w3.heap.size]? = some (.cells #[.string s, .int .i64 sz, .int .i64 0, .int .i64 v, .int .u32 k, .map (some b1), .map (some b2), .slice none 0 0, .int .i64 0] 67 (0, 0))) := Lib.hid (heap_alloc_new w3 _)
  have HA1 := Lib.hid (HM1.out.alloc (.cells #[.string s, .int .i64 sz, .int .i64 0, .int .i64 v, .int .u32 k, .map (some b1), .map (some b2), .slice none 0 0, .int .i64 0] 67))
  have HA2 := Lib.hid (HM2.out.alloc (.cells #[.string s, .int .i64 sz, .int .i64 0, .int .i64 v, .int .u32 k, .map (some b1), .map (some b2), .slice none 0 0, .int .i64 0] 67))
  have HB4 := Lib.hid (HB3.out.alloc HB3.out.size (.cells #[.string s, .int .i64 sz, .int .i64 0, .int .i64 v, .int .u32 k, .map (some b1), .map (some b2), .slice none 0 0, .int .i64 0] 67))
  have HS3 := Lib.hid HB3.out.size
  generalize w3.alloc (.cells #[.string s, .int .i64 sz, .int .i64 0, .int .i64 v, .int .u32 k, .map (some b1), .map (some b2), .slice none 0 0, .int .i64 0] 67) = w4 at R1 HA1 HA2 HB4 ⊢
  generalize w3.heap.size = B at R1 HS3 ⊢
  have HI : Hid (AInv bs s sz B b1 b2 bs.length bs.length w.heap.size w.heap.size R w4 w4 0 0 v 0 bs.length [] none 0 f) := Lib.hid (by
    obtain ⟨a0, a1, a2, a3, a4, a5, a6, a7, a8, az⟩ := row9 R1.out
    refine { mkr := ⟨⟨a0, a1, a2, a3, ?_, az, (Array.getElem?_eq_some_iff.1 R1.out).1⟩, a5, a6, a7, a8, ⟨_, _, R1.out⟩⟩, own := World.ownsRow_nil _ _ _ _, hu := by rw [Nat.zero_add]; exact HV.out.symm, ht := Nat.le_refl _, hf := Nat.zero_le _, mw := by rw [HN.out]; exact HA1.out, ok := HOK.out.last, mb := by rw [HN.out]; exact HA2.out, hm := Nat.le_refl _, no := (fun x hx => by cases hx), inb := (fun x hx => by cases hx), len := Nat.zero_le _, res := ?_, below := Below.refl _ _ }
    · rw [HK.out]; exact a4
    · rw [pend_self, List.drop_zero]
      exact HR.out)
  have CA := Lib.hid (tellAll_any bs s sz B b1 b2 bs.length bs.length w.heap.size w.heap.size R w4 v 0 bs.length [] none 0 f HI.out hz1 hz2 hs hn hn HG.out.2.2 HS3.out (Nat.le_refl _) (by have := HG.out.1; have := HS2.out; omega) HB4.out.size HB4.out.size (fun W hW => HE.out W (HB4.out.trans hW)))
  repeat (first | go_skip | go_guarded | go_step | go_upon)
  refine CA.out.mono ?_
  rintro r w5 ⟨a5, c5, rfl, d7, hown, hb5⟩
  simp only []
  have HO5 := Lib.hid hown
  have HB5 := Lib.hid (HB4.out.trans hb5)
  clear hown hb5
  repeat (first | go_skip | go_guarded | go_step | go_upon)
  go_ret2
  exact ⟨_, rfl, HO5.out, HB5.out⟩
/-- What is refused. -/
theorem make_no (s : ByteArray) (z : Int) (v : Value) (w : World) (hz : ¬ (1 ≤ z ∧ z ≤ 65536)) :
    Calls Tryd.prog 9 #[.string s, v, .int .i64 z] w fun r w' => r = .returned (.tuple #[.slice none 0 0, .int .i64 2]) ∧ w = w' := by
  have C := Lib.hid (isSize_any z w)
  rw [decide_eq_false hz] at C
  go_enter Tryd.func9, Tryd.ntmps9
  repeat (first | go_skip | go_guarded | go_step | go_upon)
  refine C.out.mono ?_
  rintro r w1 ⟨rfl, rfl⟩
  simp only []
  repeat (first | go_skip | go_guarded | go_step | go_upon)
  go_ret2
  exact ⟨rfl, rfl⟩
theorem sign_no (s : ByteArray) (z : Int) (w : World) (hz : ¬ (1 ≤ z ∧ z ≤ 65536)) :
    Calls Tryd.prog 7 #[.string s, .int .i64 z] w fun r w' => r = .returned (.tuple #[.slice none 0 0, .int .i64 2]) ∧ w = w' := by
  have C := Lib.hid (isSize_any z w)
  rw [decide_eq_false hz] at C
  go_enter Tryd.func7, Tryd.ntmps7
  repeat (first | go_skip | go_guarded | go_step | go_upon)
  refine C.out.mono ?_
  rintro r w1 ⟨rfl, rfl⟩
  simp only []
  repeat (first | go_skip | go_guarded | go_step | go_upon)
  go_ret2
  exact ⟨rfl, rfl⟩
end DM
end Go.Proofs.YtmpmmebmhffaeaaDoor
