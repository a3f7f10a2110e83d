/- Layer 12: the contracts of bothDirs, item. -/
import Derived.Test.YtmpmmebmhffaeaaGreatDoorQRcSt
set_option linter.all false
set_option maxRecDepth 100000
set_option maxHeartbeats 25600000
namespace Go.Proofs.YtmpmmebmhffaeaaGreatDoor
open Go.RowKit Go.Lib Go.Maps Go.BigFrame
namespace RC
open OM TP TM TR TG

set_option maxRecDepth 100000 in
set_option maxHeartbeats 1600000 in
theorem bothDirs_any (p : List UInt8) (o a b : List Nd) (b1 b2 b3 : Nat) (vo va vb : Value) (w : World) (h : TrAt w p o a b b1 b2 b3 vo va vb) (la : a.length ≤ maxLen) (lb : b.length ≤ maxLen) :
    Calls Tryz.prog 25 #[trV p b1 b2 b3 vo va vb] w fun r w' => r = .returned (.bool (dirV a && dirV b)) ∧ Below w.heap.size w w' := by
  obtain ⟨_, _, _, ⟨x1, c1, rfl, l1, -⟩, ⟨x2, c2, rfl, l2, -⟩, ⟨x3, c3, rfl, l3, -⟩⟩ := h
  unfold trV
  obtain ⟨S, hS, hSd⟩ := txt_of p
  rw [hS]
  have CA : Hid (∀ W, Below w.heap.size w W → Calls Tryz.prog 42 #[.slice x2 a.length c2] W fun r w' => r = .returned (.bool (dirV a)) ∧ w' = W) := Lib.hid (fun W hW => isDir_any x2 c2 a W (l2.below hW) la)
  have CB : Hid (∀ W, Below w.heap.size w W → Calls Tryz.prog 42 #[.slice x3 b.length c3] W fun r w' => r = .returned (.bool (dirV b)) ∧ w' = W) := Lib.hid (fun W hW => isDir_any x3 c3 b W (l3.below hW) lb)
  obtain ⟨no, hno⟩ : ∃ n, o.length = n := ⟨_, rfl⟩
  obtain ⟨na, hna⟩ : ∃ n, a.length = n := ⟨_, rfl⟩
  obtain ⟨nb, hnb⟩ : ∃ n, b.length = n := ⟨_, rfl⟩
  obtain ⟨da, hda⟩ : ∃ d, dirV a = d := ⟨_, rfl⟩
  obtain ⟨db, hdb⟩ : ∃ d, dirV b = d := ⟨_, rfl⟩
  rw [hna, hda] at CA
  rw [hnb, hdb] at CB
  rw [hno, hna, hnb, hda, hdb]
  clear l1 l2 l3 la lb hno hna hnb hda hdb
  have B0 : Hid (Below w.heap.size w (w.alloc (.cells #[.map (some b1), .map (some b2), .map (some b3), .string S, .slice x1 no c1, .slice x2 na c2, .slice x3 nb c3] 49))) := Lib.hid ((Below.refl _ _).alloc (Nat.le_refl _) _)
  cases da <;> go_enter Tryz.func25, Tryz.ntmps25
  all_goals repeat (first
    | (go_at_call_of 42 (Value.slice x2 na c2); refine (CA.out _ B0.out).mono ?_; rintro r w1 ⟨rfl, rfl⟩; simp only [])
    | (go_at_call_of 42 (Value.slice x3 nb c3); refine (CB.out _ B0.out).mono ?_; rintro r w1 ⟨rfl, rfl⟩; simp only [])
    | go_skip | go_guarded | go_step | go_upon)
  all_goals go_ret
  · exact ⟨rfl, B0.out⟩
  · exact ⟨rfl, B0.out⟩
set_option maxRecDepth 100000 in
set_option maxHeartbeats 1600000 in
theorem item_any (p : List UInt8) (b1 b2 b3 : Nat) (vo va vb : Value) (t : Int) (w : World) (ho : ∃ a l c, vo = .slice a l c) (ha : ∃ a l c, va = .slice a l c) (hb : ∃ a l c, vb = .slice a l c) :
    Calls Tryz.prog 24 #[trV p b1 b2 b3 vo va vb, .int .i64 t] w fun r w' => ∃ v, r = .returned v ∧ w'.ownsRow w.heap.size 43 2 v 1 [txt p, .int .i64 t] ∧ Below w.heap.size w w' := by
  obtain ⟨x1, l1, c1, rfl⟩ := ho
  obtain ⟨x2, l2, c2, rfl⟩ := ha
  obtain ⟨x3, l3, c3, rfl⟩ := hb
  unfold trV
  obtain ⟨S, hS, hSd⟩ := txt_of p
  rw [hS]
  go_enter Tryz.func24, Tryz.ntmps24
  repeat (first | go_skip | go_guarded | go_step | go_upon)
  go_ret
  refine ⟨_, rfl, ⟨rfl, .inr ⟨w.heap.size + 1, 1, #[.string S, .int .i64 t], ?_, by omega, ?_, Nat.le_refl _, by decide, rfl, rfl⟩⟩, ?_⟩
  · simp
  · have := heap_alloc_new (w.alloc (.cells #[.map (some b1), .map (some b2), .map (some b3), .string S, .slice x1 l1 c1, .slice x2 l2 c2, .slice x3 l3 c3] 49)) (.cells #[.string S, .int .i64 t] 43)
    simpa using this
  · exact ((Below.refl _ _).alloc (Nat.le_refl _) _).alloc (by simp) _
end RC
end Go.Proofs.YtmpmmebmhffaeaaGreatDoor
