/- Layer 4: the contracts of the document's above and primes. -/
import Derived.Test.YtmpmmebmhffaeaaDoorQHashTimes
import Derived.ArgAppend
set_option linter.all false
set_option maxRecDepth 100000
set_option maxHeartbeats 25600000
namespace Go.Proofs.YtmpmmebmhffaeaaDoor
open Go.RowKit Go.Lib
namespace HX
open HS HR

theorem two64 (w : World) (x y : Nat) : Free64 (w.alloc (.cells #[.int .u64 (x : Nat), .int .u64 (y : Nat)] 105)) w.heap.size w.heap.size [x, y] := by
  have hrow := heap_alloc_new w (.cells #[.int .u64 (x : Nat), .int .u64 (y : Nat)] 105)
  refine ⟨Nat.le_refl _, by simp, fun j hj => ?_, fun j _ => frozen_of_row _ _ j _ _ hrow⟩
  rw [cell_of_row _ _ j _ _ _ hrow]
  match j, hj with
  | 0, _ => rfl
  | 1, _ => rfl
theorem one64 (w : World) (x : Nat) : Free64 (w.alloc (.cells #[.int .u64 (x : Nat)] 105)) w.heap.size w.heap.size [x] := by
  have hrow := heap_alloc_new w (.cells #[.int .u64 (x : Nat)] 105)
  refine ⟨Nat.le_refl _, by simp, fun j hj => ?_, fun j _ => frozen_of_row _ _ j _ _ hrow⟩
  rw [cell_of_row _ _ j _ _ _ hrow]
  match j, hj with
  | 0, _ => rfl
theorem one_cell64 (w : World) (z : Int) (t : TypeId) : ∀ (j : Nat) u, [Value.int .u64 z][j]? = some u → (w.alloc (.cells #[.int .u64 z] t)).cell? ((⟨w.heap.size, 0, none⟩ : Addr).add j) = some u := by
  intro j u hj
  match j, hj with
  | 0, hj =>
    simp at hj
    subst hj
    simp [Addr.add]
  | j + 1, hj => simp at hj
/-- The power so far. -/
def Pow (w : World) (x : Nat) (s8 s9 : Value) (k : Nat) (wr : World) : Prop :=
  ∃ (i g c : Nat) (V : List Nat), i ≤ k ∧ s9 = .int .i64 i ∧ s8 = .slice (some ⟨g, 0, none⟩) (1 + 3 * i) c ∧ WordsAt wr g V ∧ g < wr.heap.size ∧ V.length = 1 + 3 * i ∧ (∀ j, wd V j < 4294967296) ∧ valP V V.length = x ^ i ∧ Below w.heap.size w wr
set_option maxRecDepth 100000 in
set_option maxHeartbeats 1600000 in
theorem above_any (p k : Nat) (hp : p < 4294967296) (hk : k ≤ 20) : AboveOf p k := by
  intro x w hx
  have hx0 : x % 4294967296 < 4294967296 := by omega
  have hx1 : x / 4294967296 < 4294967296 := by omega
  obtain ⟨y0, hy0⟩ : ∃ y, x % 4294967296 = y := ⟨_, rfl⟩
  obtain ⟨y1, hy1⟩ : ∃ y, x / 4294967296 = y := ⟨_, rfl⟩
  have e0 : (x : Int) % 4294967296 = (y0 : Nat) := by omega
  have e1 : (x : Int) / 4294967296 = (y1 : Nat) := by omega
  have hy0l : y0 < 4294967296 := by omega
  have hy1l : y1 < 4294967296 := by omega
  have hval : valP [y0, y1] 2 = x := by rw [valP_two]; omega
  have hwords : ∀ j, wd [y0, y1] j < 4294967296 := fun j => by
    match j with
    | 0 => exact hy0l
    | 1 => exact hy1l
    | j + 2 => rw [wd_out (by simp)]; decide
  have HX := Lib.hid hval
  have HW := Lib.hid hwords
  have HPl := Lib.hid hp
  obtain ⟨B, hB⟩ : ∃ B, aboveN x p k = B := ⟨_, rfl⟩
  rw [hB]
  have HBv := Lib.hid hB
  have hkz : (k : Int) ≤ 20 := by omega
  clear hval hwords hp hx0 hx1 hy0 hy1 hy0l hy1l hB
  go_enter Tryd.func59, Tryd.ntmps59
  go_wp2
  obtain ⟨W2, hW2⟩ : ∃ W2, (w.alloc (.cells #[.int .u64 (y0 : Nat), .int .u64 (y1 : Nat)] 105)).alloc (.cells #[.int .u64 1] 105) = W2 := ⟨_, rfl⟩
  have hA0 : Free64 W2 w.heap.size w.heap.size [y0, y1] := by rw [← hW2]; exact (two64 w y0 y1).below ((Below.refl _ _).alloc (Nat.le_refl _) _)
  have hV0 : Free64 W2 (w.heap.size + 1) (w.heap.size + 1) [1] := by
    rw [← hW2]
    have h := one64 (w.alloc (.cells #[.int .u64 (y0 : Nat), .int .u64 (y1 : Nat)] 105)) 1
    rw [show (w.alloc (.cells #[.int .u64 (y0 : Nat), .int .u64 (y1 : Nat)] 105)).heap.size = w.heap.size + 1 by simp] at h
    exact h
  have hbW : Below w.heap.size w W2 := by rw [← hW2]; exact ((Below.refl _ _).alloc (Nat.le_refl _) _).alloc (by simp) _
  rw [hW2, e0]
  have HA0 := Lib.hid hA0
  have HV0 := Lib.hid hV0
  have HBW := Lib.hid hbW
  clear hW2 hA0 hV0 hbW e0 e1
  go_loopw [8, 9] (fun s8 s9 wr => Pow W2 x s8 s9 k wr) (fun _ s9 _ => k - (Go.RowKit.intOf s9).toNat)
  case atStart => exact ⟨0, w.heap.size + 1, 1, [1], Nat.zero_le _, rfl, rfl, HV0.out.cells, HV0.out.lt, rfl, fun j => by
      match j with
      | 0 => decide
      | j + 1 => rw [wd_out (by simp)]; decide, by simp [valP, wd], Below.refl _ _⟩
  case round =>
    clear HV0
    obtain ⟨i, g, c, V, hi, rfl, rfl, hVa, hg, hVl, hVw, hval, hb⟩ := hrel
    have HVa := Lib.hid hVa
    have HVl := Lib.hid hVl
    have HVw := Lib.hid hVw
    have HVal := Lib.hid hval
    have HB := Lib.hid hb
    clear hVa hVl hVw hval hb
    by_cases hlt : i < k
    · have hz : (i : Int) < k := by omega
      have cT : Calls Tryd.prog 64 #[.slice (some ⟨g, 0, none⟩) (1 + 3 * i) c, .slice (some ⟨w.heap.size, 0, none⟩) 2 2] wr (NumPost (x ^ (i + 1)) (1 + 3 * (i + 1)) wr) := by
        have hA := HA0.out.below HB.out
        have h := rtimes_any g c w.heap.size 2 V [y0, y1] wr HVa.out hg hA.cells hA.lt (by rw [HVl.out]; omega) (by simp) HVw.out HW.out
        rw [HVal.out, show [y0, y1].length = 2 from rfl, HX.out, HVl.out, ← Nat.pow_succ, show 1 + 3 * i + 2 + 1 = 1 + 3 * (i + 1) by omega] at h
        exact h
      have CT := Lib.hid cT
      clear cT
      go_wp2_with (go_at_call 64; refine CT.out.mono ?_; rintro r w3 ⟨g3, c3, V3, rfl, hl3, hc3, hg3, hw3, hv3, hb3⟩; have H3 := Lib.hid (And.intro hl3 (And.intro hc3 (And.intro hg3 (And.intro hw3 (And.intro hv3 hb3))))); clear hl3 hc3 hg3 hw3 hv3 hb3)
      go_roundw
      case rel =>
        obtain ⟨hl3, hc3, hg3, hw3, hv3, hb3⟩ := H3.out
        exact ⟨i + 1, g3, c3, V3, by omega, by go_num, rfl, hc3, hg3, hl3, hw3, by rw [hl3]; exact hv3, Below.trans HB.out (hb3.mono HB.out.size)⟩
      case measure => simp [Go.RowKit.intOf]; omega
    · have hz : ¬ (i : Int) < k := by omega
      have ei : i = k := by omega
      subst ei
      obtain ⟨i0, hi0, hz0, hz1, hz2⟩ := info64
      obtain ⟨w5, hmk, ho, hb5⟩ := made64 wr i (by omega)
      have HO := Lib.hid ho
      have HB5 := Lib.hid hb5
      have hs5 := hb5.size
      clear ho hb5
      go_wp2_with (at_builtin; refine wpList_append_own _ rfl _ _ 102 rfl wr.heap.size 105 i0 (.int .u64 0) 1 8 Tryd.underlying102 hi0 hz0 hz1 hz2 rfl (by decide) _ _ _ rfl (HO.out.alloc _) ⟨w5.heap.size, 0, none⟩ 1 1 [_] rfl rfl (one_cell64 _ _ _) (fun x hx => by simp at hx; subst hx; rfl) (by unfold maxLen; omega) (by omega) (by simp; omega) ?_; intro v6 w6 hown6 hgrow6 hnil6; have HO6 := Lib.hid hown6; have HB6 := Lib.hid (Below.grown (Below.alloc HB5.out hs5 _) hgrow6 (by simp; omega) (fun j hj => (HO.out.lt j hj).1)); clear hown6 hgrow6 hnil6)
      have hW := own64 (W := w6) (B := wr.heap.size) (v := v6) (l := List.replicate i 0 ++ [p]) (by
        have h := HO6.out
        rw [List.length_append, List.length_replicate, List.map_append]
        exact h) (by simp)
      obtain ⟨g6, c6, hv6, hF6⟩ := hW
      have hl6 : (List.replicate i 0 ++ [p]).length = i + 1 := by simp
      rw [hl6] at hv6
      subst hv6
      have hVa6 : WordsAt w6 g V := fun j hj => (HB6.out.cell (p := ⟨g, j, none⟩) hg).trans (HVa.out j hj)
      have hpw : ∀ j, wd (List.replicate i 0 ++ [p]) j < 4294967296 := fun j => by
        by_cases hj : j < i
        · rw [wd_app _ _ _ (by simpa using hj), wd_zero]; decide
        · by_cases hj2 : j = i
          · have h1 := wd_snoc (List.replicate i 0) p
            rw [List.length_replicate] at h1
            rw [hj2, h1]
            exact HPl.out
          · rw [wd_out (by rw [hl6]; omega)]; decide
      have cG : Calls Tryd.prog 65 #[.slice (some ⟨g, 0, none⟩) (1 + 3 * i) c, .slice (some ⟨g6, 0, none⟩) (i + 1) c6] w6 fun e w' => e = .returned (.bool B) ∧ w6 = w' := by
        have h := rgreater_any g g6 c c6 V (List.replicate i 0 ++ [p]) w6 hVa6 hF6.cells (by rw [HVl.out]; omega) (by rw [hl6]; omega)
        rw [gt_val _ _ HVw.out hpw, valP_len _ _ (Nat.le_max_right _ _), valP_len _ _ (Nat.le_max_left _ _), HVal.out, hl6, valP_high, pow_32, HVl.out] at h
        have e : decide (p * 2 ^ (32 * i) < x ^ i) = B := by rw [← HBv.out]; rfl
        rw [e] at h
        exact h
      have HBe := Lib.hid (Below.trans HBW.out (Below.mono (Below.trans HB.out (HB6.out.mono HB.out.size)) HBW.out.size))
      clear hVa6 hpw hF6 hl6
      go_wp2_with (go_at_call 65; refine cG.mono ?_; rintro r w7 ⟨rfl, rfl⟩)
      go_ret
      exact ⟨rfl, HBe.out⟩
end HX
end Go.Proofs.YtmpmmebmhffaeaaDoor
