/- Layer 15: the contract of the document's Carry. -/
import Derived.Test.YtbklnijmalnnoaaDoorQLnCar
import Derived.Lib.BufferRead
set_option linter.all false
set_option maxRecDepth 100000
set_option maxHeartbeats 25600000
namespace Go.Proofs.YtbklnijmalnnoaaDoor
open Go.RowKit Go.Lib Go.BigFrame
namespace LN
open HP HS RP LP OM RQ HR RF

theorem infoU : (Tryd.prog.info? 5).map (fun i => (i.zero, i.size, i.bytes)) = some (some (.int .u8 0), 1, 1) := by kernel_rfl
/-- Bytes of the call's own as a text. -/
theorem own_text {w : World} {B : Nat} {v : Value} {l : List UInt8} (h : w.ownsRow B 5 1 v l.length (Lib.byteCells l)) : (convert 45 9 v).run Tryd.prog w = .ok (.string ⟨l.toArray⟩) w := by
  rcases h.2 with ⟨rfl, h0⟩ | ⟨g, cap, cur, rfl, _⟩
  · have e : l = [] := List.eq_nil_of_length_eq_zero h0
    subst e
    exact run_convert_nil_bytes (P := Tryd.prog) w 45 9 5 0 Tryd.underlying45 Tryd.underlying5 Tryd.underlying9
  · refine run_convert_bytes_back (P := Tryd.prog) w 45 9 5 ⟨g, 0, none⟩ cap l Tryd.underlying45 Tryd.underlying5 Tryd.underlying9 (fun j hj => ?_)
    have hc := World.ownsRow.cells h (g := g) rfl j (.int .u8 (l[j].toNat : Nat)) (by unfold Lib.byteCells; rw [List.getElem?_map, List.getElem?_eq_getElem hj]; rfl)
    exact hc
/-- The loop's state: the first k bytes of what comes. -/
def PCar (C : List UInt8) (w1 : World) (s5 s6 _s7 : Value) (wr : World) : Prop :=
  ∃ k : Nat, s6 = .int .i64 k ∧ k ≤ C.length ∧ wr.ownsRow w1.heap.size 5 1 s5 k (Lib.byteCells (C.take k)) ∧ Below w1.heap.size w1 wr
theorem cells_more {C : List UInt8} {k : Nat} {b : UInt8} {n : Nat} (hb : C[k]? = some b) (hn : b.toNat = n) : Lib.byteCells (C.take k) ++ [.int .u8 (n : Nat)] = Lib.byteCells (C.take (k + 1)) := by
  rw [take_snoc hb]
  unfold Lib.byteCells
  rw [List.map_append, ← hn]
  rfl
set_option maxRecDepth 100000 in
set_option maxHeartbeats 6400000 in
theorem rcarry_any (s : List UInt8) (cut flip : Int) (x : UInt8) (w : World) (hm : s.length ≤ 1073741824) (hc0 : -9223372036854775808 ≤ cut) (hc1 : cut ≤ 9223372036854775807) (hf0 : -9223372036854775808 ≤ flip) (hf1 : flip ≤ 9223372036854775807) :
    Calls Tryd.prog 10 #[txt s, faultV cut flip x] w fun r w' => r = .returned (txt (carryL s cut flip x)) ∧ Below w.heap.size w w' := by
  obtain ⟨i0, hi, hz0, hz1, hz2⟩ := info_parts infoU
  obtain ⟨S, hS⟩ : ∃ T : ByteArray, ⟨s.toArray⟩ = T := ⟨_, rfl⟩
  have hSd : S.data.toList = s := by rw [← hS]
  obtain ⟨z, hz⟩ : ∃ z, s.length = z := ⟨_, rfl⟩
  have hSz : S.size = z := by rw [Lib.size_eq, hSd]; exact hz
  have hlen := carry_len_is s cut flip x
  have hget := carry_get s cut flip x
  obtain ⟨C, hC⟩ : ∃ C, carryL s cut flip x = C := ⟨_, rfl⟩
  rw [hC, hz] at hlen
  rw [hC] at hget ⊢
  obtain ⟨q, hq⟩ : ∃ q, C.length = q := ⟨_, rfl⟩
  rw [hq] at hlen
  obtain ⟨y, hy⟩ : ∃ y, x.toNat = y := ⟨_, rfl⟩
  have hyl : (y : Int) < 256 := by have := x.toNat_lt; omega
  unfold faultV txt
  rw [hy, hS]
  obtain ⟨w1, hw1⟩ : ∃ w1, w.alloc (.cells #[.int .i64 cut, .int .i64 flip, .int .u8 (y : Nat)] 24) = w1 := ⟨_, rfl⟩
  have hrow := heap_alloc_new w (.cells #[.int .i64 cut, .int .i64 flip, .int .u8 (y : Nat)] 24)
  rw [hw1] at hrow
  have hlt : w.heap.size < w1.heap.size := by rw [← hw1]; simp
  have hb1 : Below w.heap.size w w1 := hw1 ▸ (Below.refl _ _).alloc (Nat.le_refl _) _
  have B1 := Lib.hid hb1
  have K0 : Hid (w1.cell? ⟨w.heap.size, 0, none⟩ = some (.int .i64 cut)) := Lib.hid (by rw [cell_of_row _ _ 0 _ _ _ hrow]; rfl)
  have K1 : Hid (w1.cell? ⟨w.heap.size, 1, none⟩ = some (.int .i64 flip)) := Lib.hid (by rw [cell_of_row _ _ 1 _ _ _ hrow]; rfl)
  have K2 : Hid (w1.cell? ⟨w.heap.size, 2, none⟩ = some (.int .u8 (y : Nat))) := Lib.hid (by rw [cell_of_row _ _ 2 _ _ _ hrow]; rfl)
  have HLt := Lib.hid hlt
  have HQ := Lib.hid hq
  have HLen := Lib.hid hlen
  have HGet := Lib.hid hget
  have HSd := Lib.hid hSd
  have HZ := Lib.hid hz
  have HY := Lib.hid hy
  have hzz : (z : Int) ≤ 1073741824 := by omega
  have hqz : q ≤ z := by rw [hlen]; split <;> omega
  clear hrow hlt hb1 hq hlen hget hSd hz hy hm hS hC
  go_enter Tryd.func10, Tryd.ntmps10
  repeat (first | go_skip | go_guarded | go_step | go_upon)
  go_loopw [5, 6, 7] (PCar C w1) (fun _ s6 _ _ => z + 1 - (Go.RowKit.intOf s6).toNat)
  case atStart => exact ⟨0, rfl, Nat.zero_le _, World.ownsRow_nil _ _ _ _, Below.refl _ _⟩
  case round =>
    obtain ⟨k, rfl, hk, ho, hb⟩ := hrel
    rw [HQ.out] at hk
    have HO := Lib.hid ho
    have HB := Lib.hid hb
    have hbs := hb.size
    have x0 := (hb.cell (p := ⟨w.heap.size, 0, none⟩) HLt.out).trans K0.out
    have x1 := (hb.cell (p := ⟨w.heap.size, 1, none⟩) HLt.out).trans K1.out
    have x2 := (hb.cell (p := ⟨w.heap.size, 2, none⟩) HLt.out).trans K2.out
    clear ho hb
    by_cases hkq : k < q
    · have hkz : (k : Int) < z := by omega
      have hcut : cut < 0 ∨ (k : Int) < cut := by
        have := HLen.out
        by_cases h : 0 ≤ cut
        · rw [if_pos h] at this; omega
        · exact .inl (by omega)
      obtain ⟨b, hb⟩ : ∃ b, s[k]? = some b := ⟨s[k]'(by rw [HZ.out]; omega), List.getElem?_eq_getElem _⟩
      have hCk := HGet.out k b hb hcut
      obtain ⟨bn, e0, l0, i0r⟩ := byte_at S k (by omega) k rfl
      rw [HSd.out, List.getD_eq_getElem?_getD, hb] at e0
      simp only [Option.getD_some] at e0
      have hx1 := xor_u8 b x
      rw [e0, HY.out] at hx1
      obtain ⟨xn, hxn⟩ : ∃ xn, (b ^^^ x).toNat = xn := ⟨_, rfl⟩
      rw [hxn] at hx1
      have hnot : ¬ (0 ≤ cut ∧ cut ≤ (k : Int)) := by omega
      by_cases hfe : (k : Int) = flip
      · subst hfe
        rw [if_pos rfl] at hCk
        have HM := Lib.hid (cells_more hCk hxn)
        have qe : ((k : Int) == (k : Int)) = true := by simp
        clear hb hCk e0 hxn
        rcases hcut with hcn | hcp
        · have hc' : ¬ (0 : Int) ≤ cut := by omega
          repeat (first | (at_builtin; refine wpList_append_own _ rfl _ _ 45 rfl w1.heap.size 5 i0 (.int .u8 0) 1 1 Tryd.underlying45 hi hz0 hz1 hz2 rfl (by decide) _ _ _ rfl (HO.out.alloc _) ⟨wr.heap.size, 0, none⟩ 1 1 [.int .u8 xn] rfl rfl (one_new _ _ _) (fun u hu => by simp at hu; subst hu; rfl) (by unfold maxLen; omega) (by omega) (by simp; omega) ?_; intro v' w3 hown' hgrow3 hnil3; have HO3 := Lib.hid hown'; have HB3 := Lib.hid ((HB.out.alloc hbs (.cells #[.int .u8 xn] 5)).grown hgrow3 (by simp; omega) (fun j hj => (HO.out.lt j hj).1)); clear hown' hgrow3 hnil3) | go_skip | go_guarded | go_step | go_upon)
          exact ⟨⟨k + 1, by go_num, by rw [HQ.out]; omega, HM.out ▸ HO3.out, HB3.out⟩, by simp [Go.RowKit.intOf]; omega⟩
        · by_cases hc' : (0 : Int) ≤ cut
          · have hcp' : ¬ cut ≤ (k : Int) := by omega
            repeat (first | (at_builtin; refine wpList_append_own _ rfl _ _ 45 rfl w1.heap.size 5 i0 (.int .u8 0) 1 1 Tryd.underlying45 hi hz0 hz1 hz2 rfl (by decide) _ _ _ rfl (HO.out.alloc _) ⟨wr.heap.size, 0, none⟩ 1 1 [.int .u8 xn] rfl rfl (one_new _ _ _) (fun u hu => by simp at hu; subst hu; rfl) (by unfold maxLen; omega) (by omega) (by simp; omega) ?_; intro v' w3 hown' hgrow3 hnil3; have HO3 := Lib.hid hown'; have HB3 := Lib.hid ((HB.out.alloc hbs (.cells #[.int .u8 xn] 5)).grown hgrow3 (by simp; omega) (fun j hj => (HO.out.lt j hj).1)); clear hown' hgrow3 hnil3) | go_skip | go_guarded | go_step | go_upon)
            exact ⟨⟨k + 1, by go_num, by rw [HQ.out]; omega, HM.out ▸ HO3.out, HB3.out⟩, by simp [Go.RowKit.intOf]; omega⟩
          · omega
      · rw [if_neg hfe] at hCk
        have HM := Lib.hid (cells_more hCk e0)
        have qe : ((k : Int) == flip) = false := by simpa using hfe
        clear hb hCk e0 hxn
        rcases hcut with hcn | hcp
        · have hc' : ¬ (0 : Int) ≤ cut := by omega
          repeat (first | (at_builtin; refine wpList_append_own _ rfl _ _ 45 rfl w1.heap.size 5 i0 (.int .u8 0) 1 1 Tryd.underlying45 hi hz0 hz1 hz2 rfl (by decide) _ _ _ rfl (HO.out.alloc _) ⟨wr.heap.size, 0, none⟩ 1 1 [.int .u8 bn] rfl rfl (one_new _ _ _) (fun u hu => by simp at hu; subst hu; rfl) (by unfold maxLen; omega) (by omega) (by simp; omega) ?_; intro v' w3 hown' hgrow3 hnil3; have HO3 := Lib.hid hown'; have HB3 := Lib.hid ((HB.out.alloc hbs (.cells #[.int .u8 bn] 5)).grown hgrow3 (by simp; omega) (fun j hj => (HO.out.lt j hj).1)); clear hown' hgrow3 hnil3) | go_skip | go_guarded | go_step | go_upon)
          exact ⟨⟨k + 1, by go_num, by rw [HQ.out]; omega, HM.out ▸ HO3.out, HB3.out⟩, by simp [Go.RowKit.intOf]; omega⟩
        · by_cases hc' : (0 : Int) ≤ cut
          · have hcp' : ¬ cut ≤ (k : Int) := by omega
            repeat (first | (at_builtin; refine wpList_append_own _ rfl _ _ 45 rfl w1.heap.size 5 i0 (.int .u8 0) 1 1 Tryd.underlying45 hi hz0 hz1 hz2 rfl (by decide) _ _ _ rfl (HO.out.alloc _) ⟨wr.heap.size, 0, none⟩ 1 1 [.int .u8 bn] rfl rfl (one_new _ _ _) (fun u hu => by simp at hu; subst hu; rfl) (by unfold maxLen; omega) (by omega) (by simp; omega) ?_; intro v' w3 hown' hgrow3 hnil3; have HO3 := Lib.hid hown'; have HB3 := Lib.hid ((HB.out.alloc hbs (.cells #[.int .u8 bn] 5)).grown hgrow3 (by simp; omega) (fun j hj => (HO.out.lt j hj).1)); clear hown' hgrow3 hnil3) | go_skip | go_guarded | go_step | go_upon)
            exact ⟨⟨k + 1, by go_num, by rw [HQ.out]; omega, HM.out ▸ HO3.out, HB3.out⟩, by simp [Go.RowKit.intOf]; omega⟩
          · omega
    · have hkq2 : k = q := by omega
      have hCt : C.take k = C := List.take_of_length_le (by rw [HQ.out]; omega)
      have ho2 := HO.out
      rw [hCt, hkq2, ← HQ.out] at ho2
      have hcv := own_text ho2
      obtain ⟨TC, hTC⟩ : ∃ T : ByteArray, ⟨C.toArray⟩ = T := ⟨_, rfl⟩
      rw [hTC] at hcv
      have HTC := Lib.hid hTC
      have HBB : Hid (Below w.heap.size w wr) := Lib.hid (B1.out.trans (HB.out.mono B1.out.size))
      clear ho2 hCt hTC
      by_cases hkz : (k : Int) < z
      · have hcut : 0 ≤ cut ∧ cut ≤ (k : Int) := by
          have := HLen.out
          by_cases h : 0 ≤ cut
          · rw [if_pos h] at this; omega
          · rw [if_neg h] at this; omega
        obtain ⟨hcu, hcp⟩ := hcut
        repeat (first | go_skip | go_guarded | go_step | go_upon)
        go_ret
        exact ⟨by rw [HTC.out]; rfl, HBB.out⟩
      · repeat (first | go_skip | go_guarded | go_step | go_upon)
        go_ret
        exact ⟨by rw [HTC.out]; rfl, HBB.out⟩
end LN
end Go.Proofs.YtbklnijmalnnoaaDoor
