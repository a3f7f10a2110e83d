/- Layer 4: the contract of the program's plus (states are arrays that are handed on by value). -/
import Derived.Test.YtmpmmebmhffaeaaDoorQHashRow
import Derived.RegionTactic
import Derived.Deep.RegionWith
import Derived.Deep.RegionHeld3
set_option linter.all false
set_option maxRecDepth 100000
set_option maxHeartbeats 25600000
namespace Go.Proofs.YtmpmmebmhffaeaaDoor
open Go.RowKit Go.Lib
namespace HQ
open HP HS HR

/-- The sums of both, word by word, the first k of them. -/
def plusL (xs ys : List Nat) : Nat → List Nat
  | 0 => xs
  | k + 1 => (plusL xs ys k).set k ((xs.getD k 0 + ys.getD k 0) % 4294967296)
theorem plusL_len (xs ys : List Nat) : ∀ k, (plusL xs ys k).length = xs.length
  | 0 => rfl
  | k + 1 => by rw [plusL, List.length_set, plusL_len xs ys k]
theorem plusL_at (xs ys : List Nat) (j : Nat) : ∀ k, k ≤ j → (plusL xs ys k)[j]? = xs[j]?
  | 0, _ => rfl
  | k + 1, h => by rw [plusL, List.getElem?_set_ne (by omega), plusL_at xs ys j k (by omega)]
theorem zero8 : #[Value.int .u32 0, Value.int .u32 0, Value.int .u32 0, Value.int .u32 0, Value.int .u32 0, Value.int .u32 0, Value.int .u32 0, Value.int .u32 0] = cellsU (List.replicate 8 0) := by simp [cellsU, List.replicate]
set_option maxRecDepth 100000 in
set_option maxHeartbeats 1600000 in
theorem plus_any (xs ys : List Nat) (w : World) (hx : xs.length = 8) (hy : ys.length = 8) (hxl : ∀ x ∈ xs, x < 4294967296) (hyl : ∀ y ∈ ys, y < 4294967296) :
    Calls Tryd.prog 63 #[.agg (cellsU xs), .agg (cellsU ys)] w fun e w' => e = .returned (.agg (cellsU (plusL xs ys 8))) ∧ Below w.heap.size w w' := by
  have HX := Lib.hid hx
  have HY := Lib.hid hy
  have HXL := Lib.hid hxl
  have HYL := Lib.hid hyl
  clear hx hy hxl hyl
  go_enter Tryd.func63, Tryd.ntmps63
  go_wp2
  rw [zero8]
  go_loopw [5, 6] (fun _ s6 wr => ∃ k : Nat, k ≤ 8 ∧ s6 = .int .i64 k ∧ Row wr w.heap.size (plusL xs ys k) 99 ∧ Row wr (w.heap.size + 1) ys 99 ∧ Row wr (w.heap.size + 2) (List.replicate 8 0) 99 ∧ Below w.heap.size w wr) (fun _ s6 _ => 8 - (Go.RowKit.intOf s6).toNat)
  case atStart =>
    exact ⟨0, Nat.zero_le _, rfl, ((Row.new w xs 99).alloc _).alloc _, (Row.newAt _ ys 99 (by simp)).alloc _, Row.newAt _ (List.replicate 8 0) 99 (by simp), (((Below.refl _ _).alloc (Nat.le_refl _) _).alloc (by simp) _).alloc (by simp; omega) _⟩
  case round =>
    obtain ⟨k, hk, rfl, h1, h2, h3, hb⟩ := hrel
    have H1 := Lib.hid h1
    have H2 := Lib.hid h2
    have H3 := Lib.hid h3
    have HB := Lib.hid hb
    clear h1 h2 h3 hb
    by_cases hlt : k < 8
    · have hz : (k : Int) < 8 := by omega
      obtain ⟨x, hx1⟩ : ∃ x, xs[k]? = some x := ⟨xs[k]'(by rw [HX.out]; exact hlt), List.getElem?_eq_getElem _⟩
      obtain ⟨y, hy1⟩ : ∃ y, ys[k]? = some y := ⟨ys[k]'(by rw [HY.out]; exact hlt), List.getElem?_eq_getElem _⟩
      have c1 := H1.out.cell ((plusL_at xs ys k k (Nat.le_refl _)).trans hx1)
      have f1 := H1.out.frozen k
      have c2 := H2.out.cell hy1
      have hxz : (x : Int) < 4294967296 := by have := HXL.out x (List.mem_of_getElem? hx1); omega
      have hyz : (y : Int) < 4294967296 := by have := HYL.out y (List.mem_of_getElem? hy1); omega
      have HS : Hid (plusL xs ys (k + 1) = (plusL xs ys k).set k ((x + y) % 4294967296)) := Lib.hid (by
        rw [plusL, List.getD_eq_getElem?_getD, List.getD_eq_getElem?_getD, hx1, hy1]
        rfl)
      clear hx1 hy1
      go_wp2_with fail
      go_region_with (fail)
      all_goals (try go_wp2_with fail)
      all_goals
        go_roundw
        case rel =>
          refine ⟨k + 1, by omega, by go_num, ?_, (H2.out.setOther _ (by simp)).drew, (H3.out.setOther _ (by simp)).drew, (HB.out.setCell (by simp) _).drew⟩
          rw [HS.out]
          have h := (H1.out.set k ((x + y) % 4294967296)).drew
          rw [show (((x + y) % 4294967296 : Nat) : Int) = ((x : Int) + y) % 4294967296 by omega] at h
          exact h
        case measure => simp [Go.RowKit.intOf]; omega
    · have hz : ¬ (k : Int) < 8 := by omega
      have e8 : k = 8 := by omega
      subst e8
      have e8 : (plusL xs ys 8).length = 8 := by rw [plusL_len, HX.out]
      have HE8 := Lib.hid e8
      clear e8
      go_wp2_with (first | (refine wpList_load_row rfl 99 _ rfl _ rfl 99 _ (0, 0) _ H1.out Tryd.underlying99 rfl (by rw [cellsU_size, HE8.out]; kernel_rfl) ?_) | (refine wpList_store_row rfl 99 _ _ rfl _ _ rfl rfl 99 _ H3.out (by rw [cellsU_size, HE8.out]; kernel_rfl) (by rw [cellsU_size, cellsU_size, HE8.out]; rfl) (cellsU_one _) ?_))
      refine bodyPost_ret (v := .agg (cellsU (plusL xs ys 8))) ?_ rfl ⟨rfl, below_setRow HB.out (by omega) _⟩
      exact results_cell_row rfl _ _ (w.heap.size + 2) 99 (cellsU (plusL xs ys 8)) (0, 0) _ rfl (H3.out.setRow (plusL xs ys 8)) Tryd.underlying99 rfl (by rw [cellsU_size, HE8.out]; kernel_rfl)
end HQ
end Go.Proofs.YtmpmmebmhffaeaaDoor
