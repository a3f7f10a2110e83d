/- Layer 15: the contract of the program's Read. -/
import Derived.Test.YtbklnijmalnnoaaDoorQLnRa
set_option linter.all false
set_option maxRecDepth 100000
set_option maxHeartbeats 25600000
namespace Go.Proofs.YtbklnijmalnnoaaDoor
open Go.RowKit Go.Lib Go.BigFrame
namespace LN
open HP HS RP LP OM RQ HR RF
open HQ (Env crc_any)

theorem RdA.new (w : World) (s : List UInt8) : RdA w.heap.size s [] (w.alloc (.cells #[txt s, .slice none 0 0] 58)) := by
  have hrow := heap_alloc_new w (.cells #[txt s, .slice none 0 0] 58)
  refine ⟨?_, frozen_of_row _ _ _ _ _ hrow, frozen_of_row _ _ _ _ _ hrow, by simp, .slice none 0 0, ?_, World.ownsRow_nil _ _ _ _⟩
  · rw [cell_of_row _ _ 0 _ _ _ hrow]; rfl
  · rw [cell_of_row _ _ 1 _ _ _ hrow]; rfl
theorem RdA.lay2 {b : Nat} {s : List UInt8} {ls : List (List UInt8)} {w : World} (h : RdA b s ls w) : ∃ ao c, w.cell? ⟨b, 1, none⟩ = some (.slice ao ls.length c) ∧ Lay w ao ls ∧ ls.length ≤ c := by
  obtain ⟨_, _, _, _, v, c1, ho⟩ := h
  obtain ⟨ao, c, rfl, hL⟩ := RF.lay_of ho
  refine ⟨ao, c, c1, hL, ?_⟩
  rcases ho.2 with ⟨hv, h0⟩ | ⟨g, cap, cur, hv, _, _, hn, _⟩
  · rw [h0]; exact Nat.zero_le _
  · injection hv with _ _ e
    omega
def readE (s : List UInt8) : Nat := if (readL s).2 then 0 else 150
/-- What Read says and leaves. -/
def RdPost (s : List UInt8) (w : World) (r : Ending) (w' : World) : Prop :=
  ∃ ao c, r = .returned (.tuple #[.slice ao (readL s).1.length c, .int .i64 (readE s : Nat)]) ∧ Lay w' ao (readL s).1 ∧ (readL s).1.length ≤ c ∧ Below w.heap.size w w'
set_option maxRecDepth 100000 in
set_option maxHeartbeats 1600000 in
theorem read_call (s : List UInt8) (w : World) (he : Env w) (hx : s.length ≤ 4294967296) :
    Calls Tryd.prog 11 #[txt s] w (RdPost s w) := by
  have CR := Lib.hid (readAll_any w.heap.size s (w.alloc (.cells #[txt s, .slice none 0 0] 58)) (RdA.new w s) (fun W hW => he.below (((Below.refl _ _).alloc (Nat.le_refl _) _).trans hW)) hx)
  obtain ⟨m, hm⟩ : ∃ m, (readL s).1 = m := ⟨_, rfl⟩
  obtain ⟨g, hg⟩ : ∃ g, (readL s).2 = g := ⟨_, rfl⟩
  have HE : Hid (readE s = if g then 0 else 150) := Lib.hid (by unfold readE; rw [hg])
  have HM := Lib.hid hm
  rw [hm, hg] at CR
  unfold txt at CR ⊢
  obtain ⟨S, hS⟩ : ∃ T : ByteArray, ⟨s.toArray⟩ = T := ⟨_, rfl⟩
  rw [hS] at CR ⊢
  clear he hx hm hg hS
  unfold RdPost
  rw [HM.out, HE.out]
  go_enter Tryd.func11, Tryd.ntmps11
  repeat (first | (go_at_call 21; fail) | go_skip | go_guarded | go_step | go_upon)
  refine CR.out.mono ?_
  rintro r w1 ⟨t, rfl, hR, hb⟩
  simp only []
  obtain ⟨ao, c, c1, hL, hlm⟩ := hR.lay2
  have HL := Lib.hid hL
  have HB : Hid (Below w.heap.size w w1) := Lib.hid (((Below.refl _ _).alloc (Nat.le_refl _) _).trans hb)
  obtain ⟨k, hk⟩ : ∃ k, m.length = k := ⟨_, rfl⟩
  rw [hk] at c1
  have HK := Lib.hid hk
  have HC := Lib.hid hlm
  clear hL hR hb hk hlm
  cases g with
  | true =>
    repeat (first | go_skip | go_guarded | go_step | go_upon)
    go_ret2
    exact ⟨ao, c, by rw [HK.out]; rfl, HL.out, HC.out, HB.out⟩
  | false =>
    repeat (first | go_skip | go_guarded | go_step | go_upon)
    go_ret2
    exact ⟨ao, c, by rw [HK.out]; rfl, HL.out, HC.out, HB.out⟩
end LN
end Go.Proofs.YtbklnijmalnnoaaDoor
