/- Layer 13: slices.Backward over programs: what its loop hands over. -/
import Derived.Test.YtechekdiadpmoaaDoorQPlMem
import Derived.RangeFuncNested
import Derived.RangeFuncBound
import Derived.RangeFuncCalls
import Derived.RangeFuncLeaves
import Derived.Shelf.Abstract
import Derived.Shelf.RegionOpen
import Derived.WalkKit
import Derived.OwnWalkIn
import Derived.TacticsInMore
import Derived.LoopNIn
import Derived.LoopIn
set_option linter.all false
set_option maxRecDepth 100000
set_option maxHeartbeats 25600000
namespace Go.Proofs.YtechekdiadpmoaaDoor
open Go.RowKit Go.Lib Go.Shelf
namespace PB
open OM TM PL PM
attribute [local go_sem] Oper.semAt_some

/-- A program of bounded bulk. -/
abbrev Sm := { m : Pm // m.1.length ≤ 1048576 ∧ m.2.length ≤ 1048576 }
def SmM (M : List Pm) : Prop := ∀ x ∈ M, x.1.length ≤ 1048576 ∧ x.2.length ≤ 1048576
/-- What comes in round k: the number, the program. -/
def came (M : List Pm) (h : SmM M) (k : Nat) : Int × Sm := ((M.length : Int) - 1 - k, if hk : M.length - 1 - k < M.length then ⟨M[M.length - 1 - k], h _ (List.getElem_mem hk)⟩ else ⟨([], []), by simp⟩)
def upto {α : Type} (f : Nat → α) (k : Nat) : List α := (List.range k).map f
theorem upto_succ {α : Type} (f : Nat → α) (k : Nat) : upto f (k + 1) = upto f k ++ [f k] := by simp [upto, List.range_succ]
theorem upto_length {α : Type} (f : Nat → α) (k : Nat) : (upto f k).length = k := by simp [upto]
def encB (x : Int × Sm) : Array Value := #[.int .i64 x.1, .agg #[txt x.2.1.1, txt x.2.1.2]]
set_option maxRecDepth 100000 in
set_option maxHeartbeats 2000000 in
theorem back1_in (F : Fence) (n : Nat) (h8 : F.fn 52) (hro : F.round = none) (hn : 1 ≤ n) (l Bs n₀ : Nat) (ao : Option Addr) (c : Nat) (M : List Pm) (hM : SmM M) (hlen : M.length ≤ 1048576) (J Jx : List (Int × Sm) → World → Prop)
    (hY : ∀ pre x W, J pre W → pre.length < M.length → YieldAt F (n - 1) Tryd.prog l (encB x) W fun e W' =>
      (e = .returned (.bool true) ∧ J (pre ++ [x]) W' ∧ Below n₀ W W') ∨ (e = .returned (.bool false) ∧ Jx (pre ++ [x]) W'))
    (W : World) (hBs : W.cell? ⟨Bs, 0, none⟩ = some (.slice ao M.length c)) (hB0 : Bs < n₀) (hc : ∃ g o, (0 < M.length → ao = some ⟨g, o, none⟩ ∧ g < n₀) ∧ ∀ (i : Nat) (x : Pm), M[i]? = some x → W.cell? ⟨g, o + i * 2, none⟩ = some (txt x.1) ∧ W.cell? ⟨g, o + i * 2 + 1, none⟩ = some (txt x.2)) (h0 : J [] W) :
    CallsIn F n Tryd.prog 52 #[.func (.yield l) #[] #[], .pointer (some ⟨Bs, 0, none⟩)] W fun e W' => (∃ v, e = .returned v) ∧
      ((∃ ys, ys = upto (came M hM) M.length ∧ J ys W') ∨ (∃ pre, (∃ k, k ≤ M.length ∧ pre = upto (came M hM) k) ∧ Jx pre W')) := by
  obtain ⟨g, o, hg, hc⟩ := hc
  obtain ⟨len, hl⟩ : ∃ len, M.length = len := ⟨_, rfl⟩
  have HL := Lib.hid hl
  have HC := Lib.hid hc
  have HG := Lib.hid hg
  rw [hl] at hBs hlen hY ⊢
  clear hc hg hl
  refine callsIn_of_wp Tryd.func52 rfl h8 ?_ hro
  simp only [Tryd.ntmps52, List.size_toArray, List.length_cons, List.length_nil, Nat.reduceAdd, Nat.reduceSub, Array.replicate_succ, Array.replicate_zero, List.push_toArray, List.append_toArray, List.nil_append, List.cons_append]
  have w1 : wrap64 ((len : Int) - 1) = len - 1 := by unfold wrap64; omega
  gi_wp2
  gi_loopw [3] (fun i wr => ∃ k : Nat, k ≤ len ∧ i = .int .i64 ((len : Int) - 1 - k) ∧ J (upto (came M hM) k) wr ∧ Below n₀ W wr)
    (fun i _ => (intOf i + 1).toNat)
  case atStart => exact ⟨0, Nat.zero_le _, by simp, h0, Below.refl _ _⟩
  case round =>
    obtain ⟨k, hk, rfl, hJs, hnx⟩ := hrel
    have hBr : wr.cell? ⟨Bs, 0, none⟩ = some (.slice ao len c) := (hnx.cell (p := ⟨Bs, 0, none⟩) hB0).trans hBs
    by_cases hlt : k < len
    · obtain ⟨j, hj⟩ : ∃ j : Nat, (len : Int) - 1 - k = j := ⟨len - 1 - k, by omega⟩
      have hjl : j < M.length := by rw [HL.out]; omega
      have hjz : (j : Int) < len := by omega
      have hj0 : (0 : Int) ≤ j := by omega
      have hje : M.length - 1 - k = j := by rw [HL.out]; omega
      obtain ⟨rfl, hgl⟩ := HG.out (by omega)
      have hx : M[j]? = some M[j] := List.getElem?_eq_getElem hjl
      obtain ⟨c0, c1⟩ := HC.out j _ hx
      have d0 := (hnx.cell (p := ⟨g, o + j * 2, none⟩) hgl).trans c0
      have d1 := (hnx.cell (p := ⟨g, o + j * 2 + 1, none⟩) hgl).trans c1
      have hcm : encB (came M hM k) = #[.int .i64 j, .agg #[txt M[j].1, txt M[j].2]] := by
        unfold encB came
        simp only [hje]
        rw [dif_pos hjl, show ((M.length : Int) - 1 - k) = j by rw [HL.out]; exact hj]
      obtain ⟨fn, tmps, assign, body, hy, hR⟩ := hY _ (came M hM k) wr hJs (by rw [upto_length]; exact hlt)
      rw [hcm] at hy
      rw [hj]
      have hnext : Hid (∃ z : Int, (j : Int) - 1 = z ∧ wrap64 ((j : Int) - 1) = z ∧ z = (len : Int) - 1 - (k + 1 : Nat)) := Lib.hid ⟨(j : Int) - 1, rfl, by unfold wrap64; omega, by omega⟩
      gi_wp2
      refine hR.mono ?_
      rintro e W3 (⟨rfl, hJ3, hk3⟩ | ⟨rfl, hJx3⟩)
      · gi_wp2
        go_roundw
        case rel => exact ⟨k + 1, by omega, by first | rfl | go_num | omega, by rw [upto_succ]; exact hJ3, hnx.trans hk3⟩
        case measure => first | (simp [intOf]; done) | (simp [intOf]; omega)
      · gi_wp2
        refine bodyPost_ret (results_none rfl _ _ _) rfl ?_
        exact ⟨⟨_, rfl⟩, .inr ⟨_, ⟨k + 1, by omega, (upto_succ _ _).symm⟩, hJx3⟩⟩
    · obtain rfl : k = len := by omega
      have hneg : ¬ (0 : Int) ≤ (k : Int) - 1 - k := by omega
      gi_wp2
      go_end0
      first
        | exact ⟨⟨_, rfl⟩, .inl ⟨_, rfl, hJs⟩⟩
        | exact ⟨⟨_, rfl⟩, .inl hJs⟩
set_option maxHeartbeats 1000000 in
theorem back_in (F : Fence) (n : Nat) (h6 : F.fn 33) (hro : F.round = none) (a : Option Addr) (len cap : Nat) (w : World) :
    CallsIn F n Tryd.prog 33 #[.slice a len cap] w fun e w' => e = .returned (.func (.func 52) #[] #[.pointer (some ⟨w.heap.size, 0, none⟩)]) ∧ w' = w.alloc (.cells #[.slice a len cap] 37) := by
  refine callsIn_of_wp Tryd.func33 rfl h6 ?_ hro
  simp only [Tryd.ntmps33, List.size_toArray, List.length_cons, List.length_nil, Nat.reduceAdd, Nat.reduceSub, Array.replicate_succ, Array.replicate_zero, List.push_toArray, List.append_toArray, List.nil_append, List.cons_append]
  gi_wp2
  go_ret
  exact ⟨rfl, rfl⟩
theorem back_stops (F : Fence) (n : Nat) (h8 : F.fn 52) (hro : F.round = none) (hn : 1 ≤ n) (Bs n₀ : Nat) (ao : Option Addr) (c : Nat) (M : List Pm) (hM : SmM M) (hlen : M.length ≤ 1048576) (w : World) (hB0 : Bs < n₀) (hn₀ : n₀ ≤ w.heap.size)
    (hc : w.cell? ⟨Bs, 0, none⟩ = some (.slice ao M.length c)) (hI : ∃ g o, (0 < M.length → ao = some ⟨g, o, none⟩ ∧ g < n₀) ∧ ∀ (i : Nat) (x : Pm), M[i]? = some x → w.cell? ⟨g, o + i * 2, none⟩ = some (txt x.1) ∧ w.cell? ⟨g, o + i * 2 + 1, none⟩ = some (txt x.2)) :
    SeqStopsK F n Tryd.prog 52 #[.pointer (some ⟨Bs, 0, none⟩)] encB (Below n₀) (fun ys => ys = upto (came M hM) M.length)
      (fun pre => ∃ k, k ≤ M.length ∧ pre = upto (came M hM) k) M.length w := fun l J Jx W hW _ _ hY h0 => by
  have hb := hW.mono hn₀
  obtain ⟨g, o, hg, hcs⟩ := hI
  refine back1_in F n h8 hro hn l Bs n₀ ao c M hM hlen J Jx hY W ((hb.cell (p := ⟨Bs, 0, none⟩) hB0).trans hc) hB0 ⟨g, o, hg, fun i x hx => ?_⟩ h0
  have hgl := (hg (by have := (List.getElem?_eq_some_iff.1 hx).1; omega)).2
  exact ⟨(hb.cell (p := ⟨g, o + i * 2, none⟩) hgl).trans (hcs i x hx).1, (hb.cell (p := ⟨g, o + i * 2 + 1, none⟩) hgl).trans (hcs i x hx).2⟩
end PB
end Go.Proofs.YtechekdiadpmoaaDoor
