/- Layer 4: the contracts of the program's end and text. -/
import Derived.Test.YtmpmmebmhffaeaaDoorQHashAfter
import Derived.Test.YtmpmmebmhffaeaaDoorQHashOwn
set_option linter.all false
set_option maxRecDepth 100000
set_option maxHeartbeats 25600000
namespace Go.Proofs.YtmpmmebmhffaeaaDoor
open Go.RowKit Go.Lib
namespace HQ
open HP HS HR

theorem Own8.shape {w : World} {B : Nat} {v : Value} {l : List UInt8} (h : Own8 w B v l) : ∃ ao cap, v = .slice ao l.length cap := by
  rcases h with ⟨rfl, rfl⟩ | ⟨g, cap, rfl, _⟩
  · exact ⟨none, 0, rfl⟩
  · exact ⟨some ⟨g, 0, none⟩, cap, rfl⟩
theorem one_byte (w : World) (b : UInt8) (z : Int) (t : TypeId) (hz : z = (b.toNat : Nat)) : ∀ (j : Nat) (u : UInt8), [b][j]? = some u → (w.alloc (.cells #[.int .u8 z] t)).cell? ((⟨w.heap.size, 0, none⟩ : Addr).add j) = some (.int .u8 (u.toNat : Nat)) := by
  intro j u hj
  match j, hj with
  | 0, hj =>
    simp at hj
    subst hj
    simp [Addr.add, hz]
  | j + 1, hj => simp at hj
/-- A text's rest, and what stands behind it. -/
def endL (r : List UInt8) (n : Nat) : List UInt8 := r ++ [128] ++ List.replicate (noughts r.length) 0 ++ be8 (n * 8)
theorem be8_len (n : Nat) : (be8 n).length = 8 := by simp [be8]
theorem be8_take (n k : Nat) (h : k < 8) : (be8 n).take (k + 1) = (be8 n).take k ++ [UInt8.ofNat (n / 2 ^ (8 * (7 - k)) % 256)] := by
  rw [List.take_add_one]
  congr 1
  unfold be8
  rw [List.getElem?_map, List.getElem?_range h]
  rfl
theorem noughts_more {n k : Nat} (h : k ≤ noughts n) : (n + 1 + k) % 64 = 56 ↔ k = noughts n := by
  unfold noughts at *
  omega
theorem noughts_lt (n : Nat) : noughts n < 64 := by unfold noughts; omega
set_option maxRecDepth 100000 in
set_option maxHeartbeats 1600000 in
theorem end_any (n : Nat) (p : ByteArray) (w : World) (hp : p.size ≤ 400) (hn : n ≤ 140737488355328) :
    Calls Tryd.prog 47 #[.string p, .int .i64 n] w fun r w' => r = .returned (.string ⟨(endL p.data.toList n).toArray⟩) ∧ Below w.heap.size w w' := by
  obtain ⟨v0, w0, hconv, ho0, hb0⟩ := text_own w p
  obtain ⟨R, hR⟩ : ∃ R, p.data.toList = R := ⟨_, rfl⟩
  obtain ⟨m, hm⟩ : ∃ m, R.length = m := ⟨_, rfl⟩
  rw [hR] at ho0
  have hml : m ≤ 400 := by rw [← hm, ← hR, ← Lib.size_eq]; exact hp
  have HM := Lib.hid hm
  have HR := Lib.hid hR
  have HO0 := Lib.hid ho0
  have HB0 := Lib.hid hb0
  have hs0 := hb0.size
  have hnl := noughts_lt m
  clear ho0 hb0 hm hR hp
  go_enter Tryd.func47, Tryd.ntmps47
  go_wp2_with (first | (at_builtin; refine wpList_app8 rfl _ _ rfl w.heap.size _ R rfl (HO0.out.alloc _) (by simp; omega) ⟨w0.heap.size, 0, none⟩ 1 1 [128] rfl rfl (one_byte _ _ _ _ rfl) (by rw [HM.out]; omega) ?_; intro v3 w3 ho3 hb3; have HO3 := Lib.hid ho3; have HB3 := Lib.hid (Below.trans (HB0.out.alloc hs0 _) hb3); have hs3 := HB3.out.size; clear ho3 hb3))
  go_loopw [5] (fun s5 wr => ∃ k : Nat, k ≤ noughts m ∧ Own8 wr w.heap.size s5 (R ++ [128] ++ List.replicate k 0) ∧ Below w.heap.size w wr) (fun s5 _ => match s5 with | .slice _ l _ => 600 - l | _ => 0)
  case atStart => exact ⟨0, Nat.zero_le _, by rw [List.replicate_zero, List.append_nil]; exact HO3.out, HB3.out⟩
  case round =>
    clear HO3 HB3 hs3
    obtain ⟨k, hk, ho, hb⟩ := hrel
    obtain ⟨ao, cap, hv⟩ := ho.shape
    have hll : (R ++ [128] ++ List.replicate k 0).length = m + 1 + k := by simp only [List.length_append, List.length_singleton, List.length_replicate, HM.out]
    rw [hll] at hv
    subst hv
    have HO := Lib.hid ho
    have HB := Lib.hid hb
    have hs := hb.size
    have hm := noughts_more hk
    have HLL := Lib.hid hll
    clear ho hb hll
    by_cases hlt : k < noughts m
    · have hmz : ((m : Int) + 1 + k) % 64 ≠ 56 := by omega
      have hmb : (((m : Int) + 1 + k) % 64 != 56) = true := by simpa using hmz
      clear hm
      go_wp2_with (first | (at_builtin; refine wpList_app8 rfl _ _ rfl w.heap.size _ (R ++ [128] ++ List.replicate k 0) (by first | rfl | (rw [HLL.out])) (HO.out.alloc _) (by simp; omega) ⟨wr.heap.size, 0, none⟩ 1 1 [0] rfl rfl (one_byte _ _ _ _ rfl) (by rw [HLL.out]; omega) ?_; intro v3 w3 ho3 hb3; have HO3 := Lib.hid ho3; have HB3 := Lib.hid (Below.trans (HB.out.alloc hs _) hb3); have hs3 := HB3.out.size; clear ho3 hb3))
      go_roundw
      case rel =>
        refine ⟨k + 1, by omega, ?_, HB3.out⟩
        have h := HO3.out
        rw [List.append_assoc (R ++ [128]), ← List.replicate_succ'] at h
        exact h
      case measure =>
        obtain ⟨ao3, cap3, hv3⟩ := HO3.out.shape
        rw [List.length_append, HLL.out, List.length_singleton] at hv3
        rw [hv3]
        show 600 - (m + 1 + k + 1) < 600 - (m + 1 + k)
        omega
    · have hk2 : k = noughts m := by omega
      have hmz : ((m : Int) + 1 + k) % 64 = 56 := by omega
      have hmb : (((m : Int) + 1 + k) % 64 != 56) = false := by simpa using hmz
      clear hmz
      have hkl : k < 64 := by omega
      have HKE := Lib.hid hk2
      clear hm hnl hk hlt hk2
      go_wp2_with fail
      go_loopw [5, 7] (fun s5 s7 wr => ∃ q : Nat, q ≤ 8 ∧ s7 = .int .i64 (7 - (q : Int)) ∧ Own8 wr w.heap.size s5 (R ++ [128] ++ List.replicate k 0 ++ (be8 (n * 8)).take q) ∧ Below w.heap.size w wr) (fun _ s7 _ => (Go.RowKit.intOf s7 + 1).toNat)
      case atStart => exact ⟨0, by omega, rfl, by rw [List.take_zero, List.append_nil]; exact HO.out, HB.out⟩
      case round =>
        clear HO HB hs
        obtain ⟨q, hq, rfl, ho, hb⟩ := hrel
        obtain ⟨ao2, cap2, hv⟩ := ho.shape
        have hll : (R ++ [128] ++ List.replicate k 0 ++ (be8 (n * 8)).take q).length = m + 1 + k + q := by rw [List.length_append, HLL.out, List.length_take, be8_len]; omega
        rw [hll] at hv
        subst hv
        have HO := Lib.hid ho
        have HB := Lib.hid hb
        have hs := hb.size
        have HLL2 := Lib.hid hll
        clear ho hb hll
        by_cases hlt : q < 8
        · have hz : (q : Int) ≤ 7 := by omega
          have hzb : decide ((q : Int) ≤ 7) = true := by simpa using hz
          have HBy : Hid ((n : Int) * 8 / 2 ^ (8 * (7 - q)) % 256 = ((UInt8.ofNat (n * 8 / 2 ^ (8 * (7 - q)) % 256)).toNat : Nat)) := Lib.hid (by
            rw [byte_of' (Nat.mod_lt _ (by decide))]
            simp)
          go_wp2_with (first | (at_builtin; refine wpList_app8 rfl _ _ rfl w.heap.size _ (R ++ [128] ++ List.replicate k 0 ++ (be8 (n * 8)).take q) rfl (HO.out.alloc _) (by simp; omega) ⟨wr.heap.size, 0, none⟩ 1 1 [UInt8.ofNat (n * 8 / 2 ^ (8 * (7 - q)) % 256)] rfl rfl (one_byte _ _ _ _ HBy.out) (by rw [HLL2.out]; omega) ?_; intro v4 w4 ho3 hb3; have HO3 := Lib.hid ho3; have HB3 := Lib.hid (Below.trans (HB.out.alloc hs _) hb3); have hs3 := HB3.out.size; clear ho3 hb3))
          go_roundw
          case rel =>
            have h := HO3.out
            rw [List.append_assoc, ← be8_take _ _ hlt] at h
            exact ⟨q + 1, by omega, by go_num, h, HB3.out⟩
          case measure => simp [Go.RowKit.intOf]; omega
        · have hz : ¬ (q : Int) ≤ 7 := by omega
          have hzb : decide ((q : Int) ≤ 7) = false := by simpa using hz
          have e8 : q = 8 := by omega
          have HT : Hid (R ++ [128] ++ List.replicate k 0 ++ (be8 (n * 8)).take q = endL R n) := Lib.hid (by
            rw [List.take_of_length_le (by rw [be8_len]; omega), HKE.out, ← HM.out]
            rfl)
          have hcv := own_text HO.out
          rw [HT.out] at hcv
          clear e8
          go_wp2_with fail
          go_ret
          exact ⟨by rw [HR.out]; rfl, HB.out⟩
theorem four_bytes (w : World) (bs : List UInt8) (zs : List Int) (t : TypeId) (hz : bs.map (fun b => ((b.toNat : Nat) : Int)) = zs) (C : Array Value) (hC : C = (zs.map (Value.int .u8)).toArray) : ∀ (j : Nat) (u : UInt8), bs[j]? = some u → (w.alloc (.cells C t)).cell? ((⟨w.heap.size, 0, none⟩ : Addr).add j) = some (.int .u8 (u.toNat : Nat)) := by
  intro j u hj
  have hadd : (⟨w.heap.size, 0, none⟩ : Addr).add j = ⟨w.heap.size, j, none⟩ := by unfold Addr.add; split <;> simp_all
  rw [hadd, cell_of_row _ _ j _ _ _ (heap_alloc_new w _)]
  subst hC
  subst hz
  simp [hj]
theorem be4_is (n : Nat) : be4 n = [UInt8.ofNat (n / 2 ^ 24 % 256), UInt8.ofNat (n / 2 ^ 16 % 256), UInt8.ofNat (n / 2 ^ 8 % 256), UInt8.ofNat (n / 2 ^ 0 % 256)] := rfl
theorem idx_agg (xs : List Nat) (k x : Nat) (W : World) (hk : k < 8) (hx : xs[k]? = some x) : (Instr.index 99 (.agg (cellsU xs)) (.int .i64 (k : Nat))).run Tryd.prog W = .ok (.int .u32 (x : Nat)) W := by
  have h0 : 0 ≤ (k : Int) ∧ (k : Int) < (8 : Nat) := by omega
  have hc : (cellsU xs)[k]? = some (.int .u32 (x : Nat)) := by rw [cellsU_get, hx]; rfl
  simp [Instr.index, run_underlying Tryd.underlying99, asIntOf, h0, go_sem]
  rw [if_pos hk, hc]
  rfl
set_option maxRecDepth 100000 in
set_option maxHeartbeats 1600000 in
theorem text_any (xs : List Nat) (w : World) (hx : xs.length = 8) (hl : ∀ x ∈ xs, x < 4294967296) :
    Calls Tryd.prog 48 #[.agg (cellsU xs)] w fun r w' => r = .returned (.string ⟨(xs.flatMap be4).toArray⟩) ∧ Below w.heap.size w w' := by
  have HX := Lib.hid hx
  have HL := Lib.hid hl
  have R0 := Lib.hid (Row.new w xs 99)
  have B0 := Lib.hid ((Below.refl w.heap.size w).alloc (Nat.le_refl _) (Obj.cells (cellsU xs) 99))
  clear hx hl
  go_enter Tryd.func48, Tryd.ntmps48
  go_wp2_with (refine wpList_load_row rfl 99 _ rfl _ rfl 99 _ (0, 0) _ R0.out Tryd.underlying99 rfl (by rw [cellsU_size, HX.out]; kernel_rfl) ?_)
  go_loopw [3, 5, 7] (fun s3 _ s7 wr => ∃ k : Nat, k ≤ 8 ∧ s7 = .int .i64 k ∧ Own8 wr w.heap.size s3 ((xs.take k).flatMap be4) ∧ Below w.heap.size w wr) (fun _ _ s7 _ => 8 - (Go.RowKit.intOf s7).toNat)
  case atStart => exact ⟨0, by omega, rfl, Own8.nil _ _, B0.out⟩
  case round =>
    obtain ⟨k, hk, rfl, ho, hb⟩ := hrel
    have hll : ((xs.take k).flatMap be4).length = 4 * k := by
      have h4 : ∀ l : List Nat, (l.flatMap be4).length = 4 * l.length := by
        intro l
        induction l with
        | nil => rfl
        | cons x r ih => rw [List.flatMap_cons, List.length_append, ih, be4_is, List.length_cons]; simp; omega
      rw [h4, List.length_take, HX.out]
      omega
    have HO := Lib.hid ho
    have HB := Lib.hid hb
    have hs := hb.size
    have HLL := Lib.hid hll
    clear ho hb hll
    by_cases hlt : k < 8
    · have hz : (k : Int) < 8 := by omega
      obtain ⟨x, hx1⟩ : ∃ x, xs[k]? = some x := ⟨xs[k]'(by rw [HX.out]; exact hlt), List.getElem?_eq_getElem _⟩
      have c1 := fun W => idx_agg xs k x W hlt hx1
      have hxz : (x : Int) < 4294967296 := by have := HL.out x (List.mem_of_getElem? hx1); omega
      have HT : Hid (xs.take (k + 1) = xs.take k ++ [x]) := Lib.hid (by rw [List.take_add_one, hx1]; rfl)
      have HBy : Hid ((be4 x).map (fun b => ((b.toNat : Nat) : Int)) = [(x : Int) / 16777216 % 256, (x : Int) / 65536 % 256, (x : Int) / 256 % 256, (x : Int) % 256]) := Lib.hid (by
        rw [be4_is]
        simp only [List.map_cons, List.map_nil]
        rw [byte_of' (Nat.mod_lt _ (by decide)), byte_of' (Nat.mod_lt _ (by decide)), byte_of' (Nat.mod_lt _ (by decide)), byte_of' (Nat.mod_lt _ (by decide))]
        simp)
      clear hx1 hxz
      go_wp2_with (first | (at_builtin; refine wpList_app8 rfl _ _ rfl w.heap.size _ ((xs.take k).flatMap be4) rfl (HO.out.alloc _) (by simp; omega) ⟨wr.heap.size, 0, none⟩ 4 4 (be4 x) rfl rfl (four_bytes _ _ _ _ HBy.out _ rfl) (by rw [HLL.out]; omega) ?_; intro v4 w4 ho3 hb3; have HO3 := Lib.hid ho3; have HB3 := Lib.hid (Below.trans (HB.out.alloc hs _) hb3); have hs3 := HB3.out.size; clear ho3 hb3))
      go_roundw
      case rel =>
        refine ⟨k + 1, by omega, by go_num, ?_, HB3.out⟩
        rw [HT.out, List.flatMap_append, List.flatMap_singleton]
        exact HO3.out
      case measure => simp [Go.RowKit.intOf]; omega
    · have hz : ¬ (k : Int) < 8 := by omega
      have HT : Hid ((xs.take k).flatMap be4 = xs.flatMap be4) := Lib.hid (by rw [List.take_of_length_le (by rw [HX.out]; omega)])
      have hcv := own_text HO.out
      rw [HT.out] at hcv
      go_wp2_with fail
      go_ret
      exact ⟨rfl, HB.out⟩
end HQ
end Go.Proofs.YtmpmmebmhffaeaaDoor
