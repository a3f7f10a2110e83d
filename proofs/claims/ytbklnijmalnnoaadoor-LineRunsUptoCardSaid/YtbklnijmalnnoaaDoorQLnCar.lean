/- Layer 15: the contract of the program's Carry. -/
import Derived.Test.YtbklnijmalnnoaaDoorQLnMem
import Derived.Test.YtbklnijmalnnoaaDoorQBytes
import Derived.Test.YtbklnijmalnnoaaDoorQQs
import Derived.Lib.MinMax
set_option linter.all false
set_option maxRecDepth 100000
set_option maxHeartbeats 25600000
namespace Go.Proofs.YtbklnijmalnnoaaDoor
open Go.RowKit Go.Lib Go.BigFrame
namespace LN
open HP HS RP LP OM RQ HR RF

/-- Back to a text. -/
theorem back_same {w : World} {g cap : Nat} {l : List UInt8} (h : Mem8 w g cap l) (z : Nat) (hz : l.length = z) :
    (convert 45 9 (.slice (some ⟨g, 0, none⟩) z cap)).run Tryd.prog w = .ok (.string ⟨l.toArray⟩) w := by
  have h := run_convert_bytes_back (P := Tryd.prog) w 45 9 5 ⟨g, 0, none⟩ cap l Tryd.underlying45 Tryd.underlying5 Tryd.underlying9 (fun j hj => by
    have hadd : (⟨g, 0, none⟩ : Addr).add j = ⟨g, j, none⟩ := by unfold Addr.add; split <;> simp_all
    rw [hadd]
    exact h.cells j _ (List.getElem?_eq_getElem hj))
  rw [hz] at h
  exact h
theorem back_set {w : World} {g cap : Nat} {l : List UInt8} (h : Mem8 w g cap l) (k : Nat) (b : UInt8) (hk : k < l.length) (z : Nat) (hz : l.length = z) :
    (convert 45 9 (.slice (some ⟨g, 0, none⟩) z cap)).run Tryd.prog (w.setCell ⟨g, k, none⟩ (.int .u8 (b.toNat : Nat))) = .ok (.string ⟨(l.set k b).toArray⟩) (w.setCell ⟨g, k, none⟩ (.int .u8 (b.toNat : Nat))) := by
  have hs := h.set k hk b
  have h := run_convert_bytes_back (P := Tryd.prog) (w.setCell ⟨g, k, none⟩ (.int .u8 (b.toNat : Nat))) 45 9 5 ⟨g, 0, none⟩ cap (l.set k b) Tryd.underlying45 Tryd.underlying5 Tryd.underlying9 (fun j hj => by
    have hadd : (⟨g, 0, none⟩ : Addr).add j = ⟨g, j, none⟩ := by unfold Addr.add; split <;> simp_all
    rw [hadd]
    exact hs.cells j _ (List.getElem?_eq_getElem hj))
  rw [List.length_set, hz] at h
  exact h
theorem mem_below {w w' : World} {g cap : Nat} {l : List UInt8} (h : Mem8 w g cap l) (hb : Below w.heap.size w w') (hg : g < w.heap.size) : Mem8 w' g cap l :=
  ⟨fun j b hj => (hb.cell (p := ⟨g, j, none⟩) hg).trans (h.cells j b hj), fun j hj => (hb.frozen (p := ⟨g, j, none⟩) hg).trans (h.free j hj)⟩
def faultV (cut flip : Int) (x : UInt8) : Value := .agg #[.int .i64 cut, .int .i64 flip, .int .u8 (x.toNat : Nat)]
set_option maxRecDepth 100000 in
set_option maxHeartbeats 3200000 in
theorem carry_any (s : List UInt8) (cut flip : Int) (x : UInt8) (w : World) (hm : s.length ≤ maxLen) (hc0 : -9223372036854775808 ≤ cut) (hc1 : cut ≤ 9223372036854775807) (hf0 : -9223372036854775808 ≤ flip) (hf1 : flip ≤ 9223372036854775807) :
    Calls Tryd.prog 9 #[txt s, faultV cut flip x] w fun r w' => r = .returned (txt (carryL s cut flip x)) ∧ Below w.heap.size w w' := by
  unfold maxLen at hm
  obtain ⟨S, hS⟩ : ∃ T : ByteArray, ⟨s.toArray⟩ = T := ⟨_, rfl⟩
  have hSd : S.data.toList = s := by rw [← hS]
  obtain ⟨z, hz⟩ : ∃ z, s.length = z := ⟨_, rfl⟩
  have hSz : S.size = z := by rw [Lib.size_eq, hSd]; exact hz
  obtain ⟨C, hC⟩ : ∃ C, cutL s cut = C := ⟨_, rfl⟩
  obtain ⟨T, hT⟩ : ∃ T : ByteArray, ⟨C.toArray⟩ = T := ⟨_, rfl⟩
  have hTd : T.data.toList = C := by rw [← hT]
  obtain ⟨q, hq⟩ : ∃ q, C.length = q := ⟨_, rfl⟩
  have hTq : T.size = q := by rw [Lib.size_eq, hTd]; exact hq
  have hql : q ≤ z := by
    have := cut_take s cut
    obtain ⟨c, e⟩ := this
    rw [← hq, ← hC, e, List.length_take]
    omega
  obtain ⟨w1, hw1⟩ : ∃ w1, w.alloc (.cells #[.int .i64 cut, .int .i64 flip, .int .u8 (x.toNat : Nat)] 24) = w1 := ⟨_, rfl⟩
  have hrow := heap_alloc_new w (.cells #[.int .i64 cut, .int .i64 flip, .int .u8 (x.toNat : Nat)] 24)
  rw [hw1] at hrow
  have hlt : w.heap.size < w1.heap.size := by rw [← hw1]; simp
  have hb1 : Below w.heap.size w w1 := hw1 ▸ (Below.refl _ _).alloc (Nat.le_refl _) _
  obtain ⟨g, cap, w3, hconv, hg, hgl, hcap, hcs, hf, hb3⟩ := text_free w1 T
  have c1 : w3.cell? ⟨w.heap.size, 1, none⟩ = some (.int .i64 flip) := (hb3.cell (p := ⟨w.heap.size, 1, none⟩) hlt).trans (by rw [cell_of_row _ _ 1 _ _ _ hrow]; rfl)
  have c2 : w3.cell? ⟨w.heap.size, 2, none⟩ = some (.int .u8 (x.toNat : Nat)) := (hb3.cell (p := ⟨w.heap.size, 2, none⟩) hlt).trans (by rw [cell_of_row _ _ 2 _ _ _ hrow]; rfl)
  have hg : w.heap.size ≤ g := Nat.le_trans (Nat.le_of_lt hlt) hg
  have hb3 : Below w.heap.size w w3 := hb1.trans (hb3.mono (Nat.le_of_lt hlt))
  rw [hTq] at hconv hcap
  have hM : Mem8 w3 g cap C := hTd ▸ ⟨hcs, hf⟩
  have hE : carryL s cut flip x = turnL C flip x := by unfold carryL; rw [hC]
  rw [hE]
  have hqz : (q : Int) ≤ 9223372036854775807 := by omega
  have hzz : (z : Int) ≤ 9223372036854775807 := by omega
  have hxl := x.toNat_lt
  unfold faultV
  by_cases hin : 0 ≤ flip ∧ flip < (q : Int)
  · obtain ⟨k, rfl⟩ : ∃ k : Nat, flip = k := ⟨flip.toNat, by omega⟩
    have hk : k < C.length := by omega
    have eT : turnL C k x = C.set k (C.getD k 0 ^^^ x) := by
      unfold turnL
      rw [if_pos ⟨hin.1, by rw [hq]; exact hin.2⟩, Int.toNat_natCast]
    obtain ⟨c, hc⟩ : ∃ c, C[k]? = some c := ⟨C[k], List.getElem?_eq_getElem hk⟩
    have eG : C.getD k 0 = c := by rw [List.getD_eq_getElem?_getD, hc]; rfl
    have cg : w3.cell? ⟨g, k, none⟩ = some (.int .u8 (c.toNat : Nat)) := hM.cells k c hc
    have fg : w3.frozen? ⟨g, k, none⟩ = false := hM.free k (by omega)
    have hcvW := fun W (hW : Mem8 W g cap C) => back_set hW k (c ^^^ x) hk q hq
    rw [eT, eG]
    have x1 := xor_u8 c x
    obtain ⟨cn, hcn⟩ : ∃ cn, c.toNat = cn := ⟨_, rfl⟩
    have hcl := c.toNat_lt
    have hcnl : (cn : Int) < 256 := by omega
    obtain ⟨xn, hxn⟩ : ∃ xn, (c ^^^ x).toNat = xn := ⟨_, rfl⟩
    obtain ⟨y, hy⟩ : ∃ y, x.toNat = y := ⟨_, rfl⟩
    have hyl : (y : Int) < 256 := by omega
    obtain ⟨X, hX⟩ : ∃ X : ByteArray, ⟨(C.set k (c ^^^ x)).toArray⟩ = X := ⟨_, rfl⟩
    rw [hcn, hxn, hy] at x1
    rw [hcn] at cg
    rw [hX, hxn] at hcvW
    have q0 := cell_regrown cg
    have q1 := cell_regrown c1
    have q2 := cell_regrown c2
    have HMm := Lib.hid hM
    have HGL := Lib.hid hgl
    have HCV := Lib.hid hcvW
    have HKc := Lib.hid hc
    have HCN := Lib.hid hcn
    have HKk : Hid (k < cap) := Lib.hid (by omega)
    clear hcvW
    rw [← hw1, hy] at hconv
    rw [hy] at c2 q2
    rw [hy]
    have hkz : (k : Int) < q := hin.2
    have HG := Lib.hid hg
    have B3 := Lib.hid hb3
    have HE2 : Hid (txt (C.set k (c ^^^ x)) = .string X) := Lib.hid (by unfold txt; rw [hX])
    rw [HE2.out]
    by_cases hcut : 0 ≤ cut
    · have hmn : min cut (z : Int) = (q : Int) := by
        rw [← hq, ← hC]
        unfold cutL
        rw [if_pos hcut, List.length_take]
        omega
      have s1 := sl_to S q q rfl (by omega)
      have eC : s.take q = C := by
        rw [← hq, ← hC]
        unfold cutL
        rw [if_pos hcut, List.length_take, ← List.take_eq_take_min]
      rw [hSd, eC, hT] at s1
      unfold txt
      rw [hS]
      clear hS hSd hz hC hT hTd hq hM hE hcs hf hrow hb1 hlt hw1 hb3 hg hgl hcap hin hk eT hc eG hcn hcl hxn hy hX eC hxl hm
      go_enter Tryd.func9, Tryd.ntmps9
      repeat (first | go_skip | go_guarded | go_step | go_upon)
      with_reducible refine QT.region_tail 8 (by kernel_rfl) (by kernel_rfl) ?_
      simp only [List.take_succ_cons, List.take_zero, List.drop_succ_cons, List.drop_zero]
      repeat (go_big_quiet_step (fail))
      refine wpQuiet_nil ?_
      intro _ hw'
      obtain ⟨⟨dq, osq⟩, hw''⟩ := hw'
      subst hw''
      have hbq := below_regrown w3 dq osq
      have B5 := Lib.hid (B3.out.trans (hbq.mono B3.out.size))
      have hM5 := mem_below HMm.out hbq HGL.out
      clear q0 q1 q2 hbq
      generalize Go.Sort.grow (redrawn w3 dq) osq = w5 at B5 hM5 ⊢
      have cg5 : w5.cell? ⟨g, k, none⟩ = some (.int .u8 cn) := by
        have h := hM5.cells k c HKc.out
        rw [HCN.out] at h
        exact h
      have fg5 : w5.frozen? ⟨g, k, none⟩ = false := hM5.free k HKk.out
      have hcv := HCV.out w5 hM5
      clear hM5
      repeat (first | go_skip | go_guarded | go_step | go_upon)
      go_ret
      exact ⟨rfl, B5.out.setCell (p := ⟨g, k, none⟩) HG.out _⟩
    · have eC : s = C := by
        rw [← hC]
        unfold cutL
        rw [if_neg hcut]
      have eST : S = T := by rw [← hS, eC, hT]
      subst eST
      unfold txt
      rw [hS]
      clear hS hSd hz hC hT hTd hq hM hE hcs hf hrow hb1 hlt hw1 hb3 hg hgl hcap hin hk eT hc eG hcn hcl hxn hy hX eC hxl hm
      go_enter Tryd.func9, Tryd.ntmps9
      repeat (first | go_skip | go_guarded | go_step | go_upon)
      with_reducible refine QT.region_tail 8 (by kernel_rfl) (by kernel_rfl) ?_
      simp only [List.take_succ_cons, List.take_zero, List.drop_succ_cons, List.drop_zero]
      repeat (go_big_quiet_step (fail))
      refine wpQuiet_nil ?_
      intro _ hw'
      obtain ⟨⟨dq, osq⟩, hw''⟩ := hw'
      subst hw''
      have hbq := below_regrown w3 dq osq
      have B5 := Lib.hid (B3.out.trans (hbq.mono B3.out.size))
      have hM5 := mem_below HMm.out hbq HGL.out
      clear q0 q1 q2 hbq
      generalize Go.Sort.grow (redrawn w3 dq) osq = w5 at B5 hM5 ⊢
      have cg5 : w5.cell? ⟨g, k, none⟩ = some (.int .u8 cn) := by
        have h := hM5.cells k c HKc.out
        rw [HCN.out] at h
        exact h
      have fg5 : w5.frozen? ⟨g, k, none⟩ = false := hM5.free k HKk.out
      have hcv := HCV.out w5 hM5
      clear hM5
      repeat (first | go_skip | go_guarded | go_step | go_upon)
      go_ret
      exact ⟨rfl, B5.out.setCell (p := ⟨g, k, none⟩) HG.out _⟩
  · have eT : turnL C flip x = C := by
      unfold turnL
      rw [if_neg (by rw [hq]; exact hin)]
    have hcv := back_same hM q hq
    rw [eT]
    rw [hT] at hcv
    obtain ⟨y, hy⟩ : ∃ y, x.toNat = y := ⟨_, rfl⟩
    rw [← hw1, hy] at hconv
    rw [hy] at c2
    rw [hy]
    have HE2 : Hid (txt C = .string T) := Lib.hid (by unfold txt; rw [hT])
    rw [HE2.out]
    have B3 := Lib.hid hb3
    by_cases hcut : 0 ≤ cut
    · have hmn : min cut (z : Int) = (q : Int) := by
        rw [← hq, ← hC]
        unfold cutL
        rw [if_pos hcut, List.length_take]
        omega
      have s1 := sl_to S q q rfl (by omega)
      have eC : s.take q = C := by
        rw [← hq, ← hC]
        unfold cutL
        rw [if_pos hcut, List.length_take, ← List.take_eq_take_min]
      rw [hSd, eC, hT] at s1
      unfold txt
      rw [hS]
      clear hS hSd hz hC hT hTd hq hM hE hcs hf hrow hb1 hlt hw1 hb3 hg hgl hcap eT hy eC hxl hm
      by_cases hfn : 0 ≤ flip
      · have hfq : ¬ flip < (q : Int) := fun h => hin ⟨hfn, h⟩
        clear hin
        go_enter Tryd.func9, Tryd.ntmps9
        repeat (first | go_skip | go_guarded | go_step | go_upon)
        go_ret
        exact ⟨rfl, B3.out⟩
      · clear hin
        go_enter Tryd.func9, Tryd.ntmps9
        repeat (first | go_skip | go_guarded | go_step | go_upon)
        go_ret
        exact ⟨rfl, B3.out⟩
    · have eC : s = C := by
        rw [← hC]
        unfold cutL
        rw [if_neg hcut]
      have eST : S = T := by rw [← hS, eC, hT]
      subst eST
      unfold txt
      rw [hS]
      clear hS hSd hz hC hT hTd hq hM hE hcs hf hrow hb1 hlt hw1 hb3 hg hgl hcap eT hy eC hxl hm
      by_cases hfn : 0 ≤ flip
      · have hfq : ¬ flip < (q : Int) := fun h => hin ⟨hfn, h⟩
        clear hin
        go_enter Tryd.func9, Tryd.ntmps9
        repeat (first | go_skip | go_guarded | go_step | go_upon)
        go_ret
        exact ⟨rfl, B3.out⟩
      · clear hin
        go_enter Tryd.func9, Tryd.ntmps9
        repeat (first | go_skip | go_guarded | go_step | go_upon)
        go_ret
        exact ⟨rfl, B3.out⟩
end LN
end Go.Proofs.YtbklnijmalnnoaaDoor
