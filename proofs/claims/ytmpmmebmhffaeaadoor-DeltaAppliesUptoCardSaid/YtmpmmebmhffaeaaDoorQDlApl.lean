/- Layer 14: the walk of DeltaApplies. -/
import Derived.Test.YtmpmmebmhffaeaaDoorQDlRapp
import Derived.Test.YtmpmmebmhffaeaaDoorQDlArg
set_option linter.all false
set_option maxRecDepth 100000
set_option maxHeartbeats 25600000
namespace Go.Proofs.YtmpmmebmhffaeaaDoor
open Go.RowKit Go.Lib Go.BigFrame Go.Maps
namespace DM
open OM DL HP HS

set_option maxRecDepth 100000 in
theorem rapply_no (s : ByteArray) (z : Int) (v : Value) (w : World) (hz : ¬ (1 ≤ z ∧ z ≤ 65536)) :
    Calls Tryd.prog 13 #[.string s, .int .i64 z, v] w fun r w' => r = .returned (.tuple #[.string ⟨#[]⟩, .int .i64 2]) ∧ w = w' := by
  by_cases h1 : z < 1
  · go_enter Tryd.func13, Tryd.ntmps13
    repeat (first | go_skip | go_guarded | go_step | go_upon)
    go_ret2
    exact ⟨rfl, rfl⟩
  · have h2 : 65536 < z := by omega
    go_enter Tryd.func13, Tryd.ntmps13
    repeat (first | go_skip | go_guarded | go_step | go_upon)
    go_ret2
    exact ⟨rfl, rfl⟩
theorem newL_bound : ∀ (ops : List Stp), (∀ x ∈ ops, x.2.2.length ≤ 1048576) → newL ops ≤ ops.length * 1048576
  | [], _ => Nat.le_refl _
  | x :: r, h => by
    have := newL_bound r (fun y hy => h y (List.mem_cons_of_mem _ hy))
    have := h x (List.mem_cons_self ..)
    rw [newL, List.length_cons]
    omega
set_option maxRecDepth 100000 in
set_option maxHeartbeats 12800000 in
theorem applies_law (s : ByteArray) (z : Int) (ops : List Stp) (ao : Option Addr) (c : Nat) (w : World) (he : HQ.Env w) (hl : LayO w ao ops) (hs : s.size ≤ 1048576) (hn : ops.length ≤ 1048576) (hb : ∀ x ∈ ops, x.2.2.length ≤ 1048576) :
    Calls Tryd.prog 4 #[.string s, .int .i64 z, .slice ao ops.length c] w fun r w' => r = .returned (.bool true) ∧ Below w.heap.size w w' := by
  have CW := Lib.hid (awake_any w he)
  obtain ⟨n, hnn⟩ : ∃ n, ops.length = n := ⟨_, rfl⟩
  have HN := Lib.hid hnn
  have HL := Lib.hid hl
  by_cases hbig : 60 < ops.length
  · rw [hnn] at hbig ⊢
    have hz : (60 : Int) < n := by omega
    clear hl hnn he
    go_enter Tryd.func4, Tryd.ntmps4
    repeat (first | go_skip | go_guarded | go_step | go_upon)
    refine CW.out.mono ?_
    rintro r w1 ⟨rfl, hb1⟩
    simp only []
    repeat (first | go_skip | go_guarded | go_step | go_upon)
    go_ret
    exact ⟨rfl, hb1⟩
  · have hnew := newL_bound ops hb
    have CN : Hid (∀ W a cc, LayO W a ops → Calls Tryd.prog 14 #[.slice a ops.length cc] W fun r w' => r = .returned (.int .i64 (newL ops : Nat)) ∧ Below W.heap.size W w') := Lib.hid (fun W a cc h => new_any ops a cc W h (by omega) (by omega))
    have CS : Hid (∀ W a1 cc1 a2 cc2, LayO W a1 ops → LayO W a2 ops → Calls Tryd.prog 11 #[.slice a1 ops.length cc1, .slice a2 ops.length cc2] W fun r w' => r = .returned (.bool true) ∧ Below W.heap.size W w') := Lib.hid (fun W a1 cc1 a2 cc2 h1 h2 => by
      have := rsame14_any a1 a2 cc1 cc2 ops ops W h1 h2 (by unfold maxLen; omega) (by unfold maxLen; omega)
      rw [decide_eq_true rfl] at this
      exact this)
    obtain ⟨X, E, hAB⟩ : ∃ X E, (∀ W a cc, LayO W a ops → Calls Tryd.prog 12 #[.string s, .int .i64 z, .slice a ops.length cc] W fun r w' => r = .returned (.tuple #[.string X, .int .i64 E]) ∧ Below W.heap.size W w') ∧ (∀ W a cc, LayO W a ops → Calls Tryd.prog 13 #[.string s, .int .i64 z, .slice a ops.length cc] W fun r w' => r = .returned (.tuple #[.string X, .int .i64 E]) ∧ Below W.heap.size W w') := by
      by_cases hz : 1 ≤ z ∧ z ≤ 65536
      · obtain ⟨sz, rfl⟩ : ∃ sz : Nat, z = sz := ⟨z.toNat, by omega⟩
        exact ⟨_, _, fun W a cc h => apply_any s sz ops a cc W h (by omega) (by omega) hs (by omega) hb, fun W a cc h => rapply_any s sz ops a cc W h (by omega) (by omega) hs (by omega) hb⟩
      · refine ⟨⟨#[]⟩, 2, fun W a cc _ => (apply_no s z _ W hz).mono ?_, fun W a cc _ => (rapply_no s z _ W hz).mono ?_⟩
        · rintro r w' ⟨rfl, rfl⟩
          exact ⟨rfl, Below.refl _ _⟩
        · rintro r w' ⟨rfl, rfl⟩
          exact ⟨rfl, Below.refl _ _⟩
    have CA := Lib.hid hAB.1
    have CR := Lib.hid hAB.2
    have HLe := Lib.hid (newL_le ops)
    obtain ⟨t, ht⟩ : ∃ t, newL ops = t := ⟨_, rfl⟩
    have HT := Lib.hid ht
    have htb : t ≤ 62914560 := by omega
    rw [ht] at CN
    rw [hnn] at hbig CN CS CA CR ⊢
    have hz : ¬ (60 : Int) < n := by omega
    clear hl hnn he hAB hnew ht hb
    go_enter Tryd.func4, Tryd.ntmps4
    repeat (first | go_skip | go_guarded | go_step | go_upon)
    refine CW.out.mono ?_
    rintro r w1 ⟨rfl, hb1⟩
    simp only []
    have B1 := Lib.hid hb1
    have hL1 := HL.out.below hb1
    have ho1 : (w1.alloc (.cells #[] 46)).ownsRow w1.heap.size 46 3 (.slice (some ⟨w1.heap.size, 0, none⟩) 0 0) 0 [] := World.ownsRow_made (base := w1.heap.size) (e := 46) (size := 3) w1 #[] 0 (Nat.le_refl _) (Nat.zero_le _) rfl
    have hb2 : Below w1.heap.size w1 (w1.alloc (.cells #[] 46)) := (Below.refl _ _).alloc (Nat.le_refl _) _
    obtain ⟨v2, w2, hrun, ho2, hg2⟩ := run_copyO _ w1.heap.size ao c n 0 [] ops _ (hL1.below ((Below.refl _ _).alloc (Nat.le_refl _) _)) ho1 hb2.size (by omega) HN.out
    rw [Nat.zero_add, List.nil_append] at ho2
    have HO2 : Hid (w2.ownsRow w1.heap.size 46 3 v2 ops.length (opC ops)) := Lib.hid (by rw [HN.out]; exact ho2)
    have B12 : Hid (Below w1.heap.size w1 w2) := Lib.hid (hb2.grown hg2 hb2.size (fun j hj => by
      have h4 : some w1.heap.size = some j := hj
      injection h4 with h4
      omega))
    obtain ⟨a2, c2, hv2, hl2⟩ := lay3_own HO2.out
    subst hv2
    rw [HN.out] at hrun
    have HI2 := Lib.hid hl2
    have B2 := Lib.hid (B1.out.trans (B12.out.mono B1.out.size))
    have HL2 := Lib.hid (HL.out.below B2.out)
    clear hb1 hL1 ho1 hb2 ho2 hg2 hl2
    repeat (first | (at_builtin; refine wpList_append_run _ rfl _ _ _ _ rfl _ _ rfl rfl _ _ hrun ?_) | go_skip | go_guarded | go_step | go_upon)
    clear hrun
    refine (CA.out w2 a2 c2 HI2.out).mono ?_
    rintro r w3 ⟨rfl, hb3⟩
    simp only []
    have B3 := Lib.hid (B2.out.trans (hb3.mono B2.out.size))
    have HI3 := Lib.hid (HI2.out.below hb3)
    have HL3 := Lib.hid (HL2.out.below hb3)
    clear hb3
    repeat (first | go_skip | go_guarded | go_step | go_upon)
    refine (CR.out w3 ao c HL3.out).mono ?_
    rintro r w4 ⟨rfl, hb4⟩
    simp only []
    have B4 := Lib.hid (B3.out.trans (hb4.mono B3.out.size))
    have HI4 := Lib.hid (HI3.out.below hb4)
    have HL4 := Lib.hid (HL3.out.below hb4)
    clear hb4 CA CR
    repeat (first | go_skip | go_guarded | go_step | go_upon)
    go_loopw [12, 39] (fun s12 s39 wr => ∃ k : Nat, s39 = .int .i64 k ∧ s12 = .int .i64 (newL (ops.take k) : Nat) ∧ k ≤ n ∧ Below w4.heap.size w4 wr) (fun _ s39 _ => n - (Go.RowKit.intOf s39).toNat)
    case atStart => exact ⟨0, rfl, rfl, Nat.zero_le _, Below.refl _ _⟩
    case round =>
      obtain ⟨k, rfl, rfl, hk, hbw⟩ := hrel
      have HB := Lib.hid hbw
      clear hbw
      by_cases hlt : k < n
      · have hkz : (k : Int) < n := by omega
        obtain ⟨g, o, rfl, hg, hc⟩ := (HL4.out.below HB.out) (by rw [HN.out]; omega)
        obtain ⟨x, hx⟩ : ∃ x, ops[k]? = some x := ⟨ops[k]'(by rw [HN.out]; exact hlt), List.getElem?_eq_getElem _⟩
        have hs1 := newL_take ops k hx
        have hs2 := HLe.out (k + 1)
        rw [HT.out] at hs2
        obtain ⟨c0, c1, c2'⟩ := hc k x hx
        obtain ⟨F, C, T⟩ := x
        simp only [oF, oC, oT, DM.txt] at c0 c1 c2' hs1
        obtain ⟨S, hS⟩ : ∃ S : ByteArray, ⟨T.toArray⟩ = S := ⟨_, rfl⟩
        rw [hS] at c2'
        have hlS : S.size = T.length := by rw [← hS]; simp [Lib.size_eq]
        obtain ⟨p, hp⟩ : ∃ p, newL (ops.take k) = p := ⟨_, rfl⟩
        obtain ⟨q, hq⟩ : ∃ q, newL (ops.take (k + 1)) = q := ⟨_, rfl⟩
        rw [hp, hq] at hs1
        rw [hq] at hs2
        rw [hp]
        have hpq : (p : Int) + S.size = q := by omega
        have HQ := Lib.hid hq
        clear hc hx hlt hS hlS hs1 hp hq
        repeat (first | go_skip | go_guarded | go_step | go_upon)
        exact ⟨⟨k + 1, by go_num, by rw [HQ.out], by omega, HB.out.alloc HB.out.size _⟩, by simp [Go.RowKit.intOf]; omega⟩
      · have hkz : ¬ (k : Int) < n := by omega
        obtain rfl : k = n := by omega
        have HF : Hid (newL (ops.take k) = t) := Lib.hid (by rw [List.take_of_length_le (by rw [HN.out]; exact Nat.le_refl _), HT.out])
        rw [HF.out]
        have CS4 := Lib.hid (CS.out wr a2 c2 ao c (HI4.out.below HB.out) (HL4.out.below HB.out))
        clear hlt
        repeat (first | go_skip | go_guarded | go_step | go_upon)
        refine CS4.out.mono ?_
        rintro r w5 ⟨rfl, hb5⟩
        simp only []
        have B5 := Lib.hid (HB.out.trans (hb5.mono HB.out.size))
        have CN5 := Lib.hid (CN.out w5 ao c (HL4.out.below B5.out))
        clear hb5
        repeat (first | go_skip | go_guarded | go_step | go_upon)
        refine CN5.out.mono ?_
        rintro r w6 ⟨rfl, hb6⟩
        simp only []
        repeat (first | go_skip | go_guarded | go_step | go_upon)
        go_ret
        exact ⟨rfl, B4.out.trans ((B5.out.trans (hb6.mono B5.out.size)).mono B4.out.size)⟩
end DM
end Go.Proofs.YtmpmmebmhffaeaaDoor
