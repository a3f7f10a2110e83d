/- Layer 16: a sender's small calls: NewOut, call, way, waits, Way, Ack. -/
import Derived.Test.YtdkfoakmjeealaaQMxMem
set_option linter.all false
set_option maxRecDepth 100000
set_option maxHeartbeats 25600000
namespace Go.Proofs.Ytdkfoakmjeealaa
open Go.RowKit Go.Lib Go.BigFrame
namespace MX
open OM FP

set_option maxRecDepth 100000 in
set_option maxHeartbeats 1600000 in
theorem newOut_any (W S : Int) (w : World) (hW : 1 ≤ W) (hS : 1 ≤ S) :
    Calls Try.prog 7 #[.int .i64 W, .int .i64 S] w fun r w' => r = .returned (.tuple #[ptr w.heap.size, .int .i64 0]) ∧ OutA w.heap.size W S [] (.slice none 0 0) w' ∧ Below w.heap.size w w' := by
  have h1 : ¬ W < 1 := by omega
  have h2 : ¬ S < 1 := by omega
  clear hW hS
  go_enter Try.func7, Try.ntmps7
  repeat (first | go_skip | go_guarded | go_step | go_upon)
  go_ret2
  exact ⟨rfl, ⟨heap_alloc_new w _, World.ownsRow_nil _ _ _ _⟩, (Below.refl _ _).alloc (Nat.le_refl _) _⟩
set_option maxRecDepth 100000 in
set_option maxHeartbeats 1600000 in
theorem newOut_no (W S : Int) (w : World) (h : W < 1 ∨ S < 1) :
    Calls Try.prog 7 #[.int .i64 W, .int .i64 S] w fun r w' => r = .returned (.tuple #[.pointer none, .int .i64 2]) ∧ w' = w := by
  by_cases h1 : W < 1
  · clear h
    go_enter Try.func7, Try.ntmps7
    repeat (first | go_skip | go_guarded | go_step | go_upon)
    go_ret2
    exact ⟨rfl, rfl⟩
  · have h2 : S < 1 := h.resolve_left h1
    clear h
    go_enter Try.func7, Try.ntmps7
    repeat (first | go_skip | go_guarded | go_step | go_upon)
    go_ret2
    exact ⟨rfl, rfl⟩
set_option maxRecDepth 100000 in
set_option maxHeartbeats 1600000 in
theorem callG_at (b : Nat) (W S : Int) (cs : List Cl) (g k i : Nat) (w : World) (h : OutA b W S cs (.slice (some ⟨g, 0, none⟩) cs.length k) w) (hi : i < cs.length) :
    Calls Try.prog 31 #[ptr b, .int .i64 (i : Nat)] w fun r w' => r = .returned (.pointer (some ⟨g, i * 4, none⟩)) ∧ w' = w := by
  have c0 := (row_cell (j := 0) h.row).trans rfl
  obtain ⟨n, hn⟩ : ∃ n, cs.length = n := ⟨_, rfl⟩
  have hnm := owns_len h.own
  rw [hn] at c0 hi hnm
  have hiz : (i : Int) < n := by omega
  have h1 : ¬ (n : Int) ≤ i := by omega
  have h0 : ¬ (i : Int) < 0 := by omega
  unfold maxLen at hnm
  clear h hn
  go_enter Try.func31, Try.ntmps31
  repeat (first | go_skip | go_guarded | go_step | go_upon)
  go_ret
  exact ⟨rfl, rfl⟩
set_option maxRecDepth 100000 in
set_option maxHeartbeats 1600000 in
theorem callG_no (b : Nat) (W S : Int) (cs : List Cl) (v : Value) (z : Int) (w : World) (h : OutA b W S cs v w) (hz : z < 0 ∨ (cs.length : Int) ≤ z) :
    Calls Try.prog 31 #[ptr b, .int .i64 z] w fun r w' => r = .returned (.pointer none) ∧ w' = w := by
  obtain ⟨ao, c, rfl, -⟩ := owns_view h.own
  have c0 := (row_cell (j := 0) h.row).trans rfl
  obtain ⟨n, hn⟩ : ∃ n, cs.length = n := ⟨_, rfl⟩
  rw [hn] at c0 hz
  by_cases h0 : z < 0
  · clear h hn hz
    go_enter Try.func31, Try.ntmps31
    repeat (first | go_skip | go_guarded | go_step | go_upon)
    go_ret
    exact ⟨rfl, rfl⟩
  · have h1 : (n : Int) ≤ z := hz.resolve_left h0
    clear h hn hz
    go_enter Try.func31, Try.ntmps31
    repeat (first | go_skip | go_guarded | go_step | go_upon)
    go_ret
    exact ⟨rfl, rfl⟩
set_option maxRecDepth 100000 in
set_option maxHeartbeats 1600000 in
theorem way_any (g o : Nat) (s a : Nat) (w : World) (h0 : w.cell? ⟨g, o, none⟩ = some (.int .i64 (s : Nat))) (h3 : w.cell? ⟨g, o + 3, none⟩ = some (.int .i64 (a : Nat))) (has : a ≤ s) (hs : s ≤ 1048576) :
    Calls Try.prog 32 #[.pointer (some ⟨g, o, none⟩)] w fun r w' => r = .returned (.int .i64 (s - a : Nat)) ∧ Below w.heap.size w w' := by
  have hsz : (s : Int) ≤ 1048576 := by omega
  have haz : (a : Int) ≤ s := by omega
  have hd : ((s - a : Nat) : Int) = (s : Int) - (a : Int) := by omega
  clear has hs
  go_enter Try.func32, Try.ntmps32
  repeat (first | go_skip | go_guarded | go_step | go_upon)
  go_quiet (fail)
  rename_i nq
  have HB : Hid (Below w.heap.size w (w.drewN nq)) := Lib.hid ⟨rfl, rfl, rfl, Nat.le_refl _, fun _ _ => rfl⟩
  generalize w.drewN nq = w9 at HB ⊢
  repeat (first | go_skip | go_guarded | go_step | go_upon)
  go_ret
  exact ⟨by rw [hd]; rfl, HB.out⟩
set_option maxRecDepth 100000 in
set_option maxHeartbeats 1600000 in
theorem waits_any (g o : Nat) (e : Bool) (w : World) (h1 : w.cell? ⟨g, o + 1, none⟩ = some (.bool e)) :
    Calls Try.prog 33 #[.pointer (some ⟨g, o, none⟩)] w fun r w' => r = .returned (.bool (!e)) ∧ w' = w := by
  go_enter Try.func33, Try.ntmps33
  repeat (first | go_skip | go_guarded | go_step | go_upon)
  go_ret
  exact ⟨rfl, rfl⟩
end MX
end Go.Proofs.Ytdkfoakmjeealaa
