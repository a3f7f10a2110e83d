/- Layer 14: sizes, counts, blocks; what is told of a block. -/
import Derived.Test.YtmpmmebmhffaeaaDoorQDlWin
import Derived.Test.YtmpmmebmhffaeaaDoorQHashSum
set_option linter.all false
set_option maxRecDepth 100000
set_option maxHeartbeats 25600000
namespace Go.Proofs.YtmpmmebmhffaeaaDoor
open Go.RowKit Go.Lib Go.BigFrame
namespace DM
open OM DL HP HS

set_option maxRecDepth 100000 in
set_option maxHeartbeats 1600000 in
theorem isSize_any (z : Int) (W : World) : Calls Tryd.prog 15 #[.int .i64 z] W fun r w' => r = .returned (.bool (decide (1 ≤ z ∧ z ≤ 65536))) ∧ W = w' := by
  by_cases h1 : 1 ≤ z
  · by_cases h2 : z ≤ 65536
    · rw [decide_eq_true ⟨h1, h2⟩]
      go_enter Tryd.func15, Tryd.ntmps15
      repeat (first | go_skip | go_guarded | go_step | go_upon)
      go_ret
      exact ⟨rfl, rfl⟩
    · rw [decide_eq_false (fun h => h2 h.2)]
      go_enter Tryd.func15, Tryd.ntmps15
      repeat (first | go_skip | go_guarded | go_step | go_upon)
      go_ret
      exact ⟨rfl, rfl⟩
  · rw [decide_eq_false (fun h => h1 h.1)]
    go_enter Tryd.func15, Tryd.ntmps15
    repeat (first | go_skip | go_guarded | go_step | go_upon)
    go_ret
    exact ⟨rfl, rfl⟩
theorem cnt_int (n sz : Nat) (h : 1 ≤ sz) : ((n : Int) + sz - 1) / sz = (cnt n sz : Nat) := by
  unfold cnt
  rw [show (n : Int) + sz - 1 = ((n + sz - 1 : Nat) : Int) by omega]
  exact (Int.natCast_ediv _ _).symm
theorem cnt_tdiv (n sz : Nat) (h : 1 ≤ sz) : ((n : Int) + sz - 1).tdiv sz = (cnt n sz : Nat) := by
  rw [Int.tdiv_eq_ediv_of_nonneg (by omega), cnt_int n sz h]
set_option maxRecDepth 100000 in
set_option maxHeartbeats 1600000 in
theorem count_any (s : ByteArray) (sz : Nat) (W : World) (h1 : 1 ≤ sz) (h2 : sz ≤ 65536) (hs : s.size ≤ 1048576) :
    Calls Tryd.prog 16 #[.string s, .int .i64 sz] W fun r w' => r = .returned (.int .i64 (cnt s.size sz : Nat)) ∧ W = w' := by
  have H1 := cnt_int s.size sz h1
  have H2 := cnt_tdiv s.size sz h1
  have hl : cnt s.size sz ≤ 1048576 := Nat.le_trans (cnt_le h1) hs
  obtain ⟨q, hq⟩ : ∃ q, cnt s.size sz = q := ⟨_, rfl⟩
  rw [hq] at H1 H2 hl ⊢
  clear hq
  have h1z : (1 : Int) ≤ sz := by omega
  have h0z : ((sz : Int) == 0) = false := by simp; omega
  have hw : IntKind.i64.wrap (q : Int) = q := by rw [IntKind.wrap_i64]; omega
  go_enter Tryd.func16, Tryd.ntmps16
  repeat (first | go_skip | go_guarded | go_step | go_upon)
  go_ret
  exact ⟨rfl, rfl⟩
set_option maxRecDepth 100000 in
set_option maxHeartbeats 1600000 in
theorem blocksOf_any (s : ByteArray) (sz f c : Nat) (W : World) (h1 : 1 ≤ sz) (h2 : sz ≤ 65536) (hs : s.size ≤ 1048576) (hc : 1 ≤ c) (hf : f + c ≤ cnt s.size sz) :
    Calls Tryd.prog 18 #[.string s, .int .i64 sz, .int .i64 f, .int .i64 c] W fun r w' => r = .returned (.string (s.extract (f * sz) (min ((f + c) * sz) s.size))) ∧ W = w' := by
  have hcl : cnt s.size sz ≤ 1048576 := Nat.le_trans (cnt_le h1) hs
  have e0 : f * sz < s.size := (cnt_lt h1).1 (by omega)
  have e1 : (f + c) * sz ≤ s.size + sz := by
    have h := (cnt_lt (n := s.size) (i := f + c - 1) h1).1 (by omega)
    have e : (f + c) * sz = (f + c - 1) * sz + sz := by rw [← Nat.succ_mul]; congr 1; omega
    omega
  have e2 : f * sz ≤ (f + c) * sz := Nat.mul_le_mul_right _ (by omega)
  obtain ⟨p, hp⟩ : ∃ p, f * sz = p := ⟨_, rfl⟩
  obtain ⟨g, hg⟩ : ∃ g, f + c = g := ⟨_, rfl⟩
  obtain ⟨q, hq⟩ : ∃ q, g * sz = q := ⟨_, rfl⟩
  have hpz : (f : Int) * sz = p := by rw [← hp]; exact (Int.natCast_mul _ _).symm
  have hgz : (f : Int) + c = g := by omega
  have hqz : (g : Int) * sz = q := by rw [← hq]; exact (Int.natCast_mul _ _).symm
  have hpw : IntKind.i64.wrap (p : Int) = p := by rw [IntKind.wrap_i64]; omega
  have hqw : IntKind.i64.wrap (q : Int) = q := by rw [IntKind.wrap_i64]; rw [hg, hq] at e1; omega
  rw [hp] at e0
  rw [hp, hg, hq] at e2
  rw [hp, hg, hq]
  have hgl : (g : Int) ≤ 1048576 := by omega
  have hps : p ≤ s.size := by omega
  by_cases hqs : s.size < q
  · rw [show min q s.size = s.size by omega]
    clear hp hg hq e0 e1 e2 hf hcl
    go_enter Tryd.func18, Tryd.ntmps18
    repeat (first | go_skip | go_guarded | go_step | go_upon)
    go_ret
    exact ⟨rfl, rfl⟩
  · have hqs2 : q ≤ s.size := by omega
    rw [show min q s.size = q by omega]
    clear hp hg hq e0 e1 hf hcl
    go_enter Tryd.func18, Tryd.ntmps18
    repeat (first | go_skip | go_guarded | go_step | go_upon)
    go_ret
    exact ⟨rfl, rfl⟩
theorem results_cell1 {fn : Func} {p : Tmp} {ty : TypeId} (h : fn.results = #[.cell p ty]) (tmps : Array Value) (P : Program) (w : World) :
    (results fn tmps).run P w = ((asAddr (tmps.getD p undef)).run P w).andThen fun a w₁ => (loadVar ty a).run P w₁ := by
  simp only [results, h]
  simp [Sem.run_bind, Result.andThen]
theorem row3 {W : World} {B : Nat} {x y z : Value} {T : TypeId} (h : W.heap[B]? = some (.cells #[x, y, z] T (0, 0))) : W.cell? ⟨B, 0, none⟩ = some x ∧ W.cell? ⟨B, 1, none⟩ = some y ∧ W.cell? ⟨B, 2, none⟩ = some z ∧ ∀ j, W.frozen? ⟨B, j, none⟩ = false := by
  refine ⟨by simp [World.cell?, h], by simp [World.cell?, h], by simp [World.cell?, h], fun j => Lib.frozen_of_heap h j⟩
theorem below3 {B : Nat} {w W : World} {g : Nat} (h : Below B w W) (hg : B ≤ g) (x y z : Value) : Below B w (((W.setCell ⟨g, 0, none⟩ x).setCell ⟨g, 1, none⟩ y).setCell ⟨g, 2, none⟩ z) := ((h.setCell (p := ⟨g, 0, none⟩) hg x).setCell (p := ⟨g, 1, none⟩) hg y).setCell (p := ⟨g, 2, none⟩) hg z
set_option maxRecDepth 100000 in
set_option maxHeartbeats 1600000 in
theorem tell_any (s : ByteArray) (w : World) (he : HQ.Env w) (hs : s.size ≤ 1048576) :
    Calls Tryd.prog 17 #[.string s] w fun r w' => r = .returned (bkV (tellB s.data.toList)) ∧ Below w.heap.size w w' := by
  have CS : Hid (∀ W, Below w.heap.size w W → Calls Tryd.prog 31 #[.string s] W fun r w' => r = .returned (.string ⟨(shaL s.data.toList).toArray⟩) ∧ Below W.heap.size W w') := Lib.hid (fun W hW => HQ.sum_any s W (he.below hW) (by omega))
  have CW : Hid (∀ W, Calls Tryd.prog 30 #[.string s] W fun r w' => r = .returned (.int .u32 (weakL s.data.toList : Nat)) ∧ W = w') := Lib.hid (fun W => HQ.weak_all s W (by unfold maxLen; omega))
  have e : bkV (tellB s.data.toList) = .agg #[.int .u32 (weakL s.data.toList : Nat), .string ⟨(shaL s.data.toList).toArray⟩, .int .i64 s.size] := by
    unfold bkV tellB
    rw [size_data]
  rw [e]
  obtain ⟨k, hk⟩ : ∃ k, weakL s.data.toList = k := ⟨_, rfl⟩
  obtain ⟨h, hh⟩ : ∃ h : ByteArray, ⟨(shaL s.data.toList).toArray⟩ = h := ⟨_, rfl⟩
  rw [hk] at CW ⊢
  rw [hh] at CS ⊢
  clear e hk hh he
  go_enter Tryd.func17, Tryd.ntmps17
  repeat (first | go_skip | go_guarded | go_step | go_upon)
  have H0 : Hid ((w.alloc (.cells #[.int .u32 0, .string ⟨#[]⟩, .int .i64 0] 33)).heap[w.heap.size]? = some (.cells #[.int .u32 0, .string ⟨#[]⟩, .int .i64 0] 33 (0, 0))) := Lib.hid (heap_alloc_new w _)
  have HB : Hid (Below w.heap.size w (w.alloc (.cells #[.int .u32 0, .string ⟨#[]⟩, .int .i64 0] 33))) := Lib.hid ((Below.refl _ _).alloc (Nat.le_refl _) _)
  have HS : Hid (w.heap.size < (w.alloc (.cells #[.int .u32 0, .string ⟨#[]⟩, .int .i64 0] 33)).heap.size) := Lib.hid (by rw [World.size_alloc]; omega)
  generalize w.alloc (.cells #[.int .u32 0, .string ⟨#[]⟩, .int .i64 0] 33) = w0 at H0 HB HS ⊢
  refine (CW.out _).mono ?_
  rintro r w1 ⟨rfl, rfl⟩
  simp only []
  repeat (first | go_skip | go_guarded | go_step | go_upon)
  refine (CS.out _ HB.out).mono ?_
  rintro r w2 ⟨rfl, hb⟩
  simp only []
  have H2 := (hb.block _ HS.out).trans H0.out
  obtain ⟨t0, t1, t2, tf⟩ := row3 H2
  have f0 := tf 0
  have f1 := tf 1
  have f2 := tf 2
  have HB2 := Lib.hid (HB.out.trans (hb.mono HB.out.size))
  clear tf H2 hb
  repeat (first | go_skip | go_guarded | go_step | go_upon)
  refine bodyPost_ret (v := .agg #[.int .u32 k, .string h, .int .i64 s.size]) ?_ rfl ⟨rfl, below3 HB2.out (Nat.le_refl _) _ _ _⟩
  rw [results_cell1 rfl]
  go_simp
end DM
end Go.Proofs.YtmpmmebmhffaeaaDoor
