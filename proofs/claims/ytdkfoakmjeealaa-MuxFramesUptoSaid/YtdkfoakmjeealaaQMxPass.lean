/- Layer 16: pass, what both sides keep of a call goes on. -/
import Derived.Test.YtdkfoakmjeealaaQMxMem
import Derived.Test.YtdkfoakmjeealaaQQs
set_option linter.all false
set_option maxRecDepth 100000
set_option maxHeartbeats 25600000
namespace Go.Proofs.Ytdkfoakmjeealaa
open Go.RowKit Go.Lib Go.BigFrame
namespace MX
open OM FP

theorem run_min3 {P : Program} (w : World) (ts : Array TypeId) (t : TypeId) (x y z : Int) :
    (Builtin.min_ ts t #[.int .i64 x, .int .i64 y, .int .i64 z]).run P w = .ok (.int .i64 (min (min x y) z)) w := by
  have e : ∀ x y : Int, (if y < x then y else x) = min x y := fun x y => by
    rw [Int.min_def]
    split <;> split <;> omega
  simp [Builtin.min_, Builtin.min2, e]
def frV (f : Fr) : Value := .agg #[.int .i64 f.call, .int .i64 f.pos, txt f.text, .bool f.last]
set_option maxRecDepth 100000 in
set_option maxHeartbeats 3200000 in
theorem pass_any (g o s : Nat) (e last : Bool) (cl ps : Int) (X : ByteArray) (w : World) (h0 : w.cell? ⟨g, o, none⟩ = some (.int .i64 (s : Nat))) (h1 : w.cell? ⟨g, o + 1, none⟩ = some (.bool e)) (f0 : w.frozen? ⟨g, o, none⟩ = false) (f1 : w.frozen? ⟨g, o + 1, none⟩ = false) (hlt : g < w.heap.size) (hs : s + X.size ≤ 1048576) :
    Calls Try.prog 36 #[.pointer (some ⟨g, o, none⟩), .agg #[.int .i64 cl, .int .i64 ps, .string X, .bool last]] w fun r w' => r = .returned (.tuple #[]) ∧
      ∃ w1, Below w.heap.size w w1 ∧ w' = (w1.setCell ⟨g, o, none⟩ (.int .i64 (s + X.size : Nat))).setCell ⟨g, o + 1, none⟩ (.bool last) := by
  obtain ⟨x, hx⟩ : ∃ x, X.size = x := ⟨_, rfl⟩
  rw [hx] at hs ⊢
  have hz : (s : Int) + x ≤ 1048576 := by omega
  have hne : g ≠ w.heap.size := by omega
  have HL := Lib.hid hlt
  obtain ⟨w1, hw1⟩ : ∃ w1, w.alloc (.cells #[.int .i64 cl, .int .i64 ps, .string X, .bool last] 29) = w1 := ⟨_, rfl⟩
  have hr : w1.heap[w.heap.size]? = some (.cells #[.int .i64 cl, .int .i64 ps, .string X, .bool last] 29 (0, 0)) := hw1 ▸ heap_alloc_new w _
  have hb : Below w.heap.size w w1 := hw1 ▸ (Below.refl _ _).alloc (Nat.le_refl _) _
  have d0 := (hb.cell (p := ⟨g, o, none⟩) hlt).trans h0
  have d1 := (hb.cell (p := ⟨g, o + 1, none⟩) hlt).trans h1
  have k0 := (hb.frozen (p := ⟨g, o, none⟩) hlt).trans f0
  have k1 := (hb.frozen (p := ⟨g, o + 1, none⟩) hlt).trans f1
  have e2 := (row_cell (j := 2) hr).trans rfl
  have e3 := (row_cell (j := 3) hr).trans rfl
  have HD : Hid (w1.cell? ⟨g, o, none⟩ = some (.int .i64 (s : Nat)) ∧ w1.cell? ⟨g, o + 1, none⟩ = some (.bool e) ∧ w1.frozen? ⟨g, o, none⟩ = false ∧ w1.frozen? ⟨g, o + 1, none⟩ = false ∧ w1.cell? ⟨w.heap.size, 3, none⟩ = some (.bool last)) := Lib.hid ⟨d0, d1, k0, k1, e3⟩
  have HB := Lib.hid hb
  have hg1 : g < w1.heap.size := Nat.lt_of_lt_of_le hlt hb.size
  have hw1l : w.heap.size < w1.heap.size := (Array.getElem?_eq_some_iff.1 hr).1
  obtain ⟨f, hf⟩ : ∃ f, w.heap.size = f := ⟨_, rfl⟩
  have HF := Lib.hid hf
  clear hs
  go_enter Try.func36, Try.ntmps36
  repeat (first | go_skip | go_guarded | go_step | go_upon)
  rw [hf] at hr e2 e3 HD hw1l hne
  have hne2 := Ne.symm hne
  clear hr hb h0 h1 f0 f1 hw1 hf d1 k0 k1 e3
  with_reducible refine QT.region_tail 10 (by kernel_rfl) (by kernel_rfl) ?_
  simp only [List.take_succ_cons, List.take_zero, List.drop_succ_cons, List.drop_zero]
  have q0 := cell_regrown d0
  have q2 := cell_regrown e2
  repeat (go_big_quiet_step (fail))
  refine wpQuiet_nil ?_
  intro _ hw'
  obtain ⟨⟨dq, osq⟩, hw''⟩ := hw'
  subst hw''
  have W5 : Hid (Below w1.heap.size w1 (Go.Sort.grow (redrawn w1 dq) osq)) := Lib.hid (below_regrown w1 dq osq)
  generalize Go.Sort.grow (redrawn w1 dq) osq = w5 at W5 ⊢
  obtain ⟨d0, d1, k0, k1, e3⟩ := HD.out
  have d0 := (W5.out.cell (p := ⟨g, o, none⟩) hg1).trans d0
  have d1 := (W5.out.cell (p := ⟨g, o + 1, none⟩) hg1).trans d1
  have k0 := (W5.out.frozen (p := ⟨g, o, none⟩) hg1).trans k0
  have k1 := (W5.out.frozen (p := ⟨g, o + 1, none⟩) hg1).trans k1
  have e3 := (W5.out.cell (p := ⟨f, 3, none⟩) hw1l).trans e3
  clear q0 q2 e2
  repeat (first | go_skip | go_guarded | go_step | go_upon)
  refine end0 rfl rfl ⟨rfl, w5, Below.trans HB.out (W5.out.mono HB.out.size), ?_⟩
  first | rfl | skip
end MX
end Go.Proofs.Ytdkfoakmjeealaa
