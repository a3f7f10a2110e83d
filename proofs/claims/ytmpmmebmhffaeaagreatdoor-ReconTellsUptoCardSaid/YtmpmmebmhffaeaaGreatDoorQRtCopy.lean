/- Layer 12: a list of nodes copied onto an empty one: nothing that was there changes. -/
import Derived.Test.YtmpmmebmhffaeaaGreatDoorQRcC
import Derived.Test.YtmpmmebmhffaeaaGreatDoorQRtHJ
set_option linter.all false
set_option maxRecDepth 100000
set_option maxHeartbeats 25600000
namespace Go.Proofs.YtmpmmebmhffaeaaGreatDoor
open Go.RowKit Go.Lib Go.Maps Go.BigFrame Go.Sort
namespace RC
open OM TP TM TR TG TW NP

theorem app_empty {ao : Option Addr} (W : World) (g n c : Nat) (x : Value) (hx : x = .slice ao n c) (hn : 0 < n) (hs : n * 48 ≤ 140737488355328) (i0 : TypeInfo) (hi : Tryz.prog.info? 40 = some i0) (hz1 : i0.size = 4) (hz2 : i0.bytes = 48) :
    (Builtin.append_ #[22, 22] 22 #[.slice (some ⟨g, 0, none⟩) 0 0, x]).run Tryz.prog W = (Builtin.append_ #[22, 22] 22 #[.slice none 0 0, x]).run Tryz.prog W := by
  subst hx
  have h1 : ¬ n = 0 := by omega
  have h2 : Builtin.nextslicecap n 0 = n := by unfold Builtin.nextslicecap; rw [if_pos (by omega)]
  have h3 : ¬ 281474976710656 < n * 48 := by omega
  have hl : ∀ V : World, (loadCells ⟨g, 0, none⟩ 0).run Tryz.prog V = .ok #[] V := fun V => run_loadCells_list V ⟨g, 0, none⟩ [] (fun j v h => by simp at h)
  simp [Builtin.append_, run_underlying Tryz.underlying22, sizeOf, typeInfo, hi, hz1, hz2, Builtin.lenOf, Builtin.firstCells, h1, h2, h3, hl]
/-- A copy of a list: where it lies, a block that the region made. -/
def Cp (W : World) (v : Value) (l : List Nd) : Prop := ∃ a c, v = .slice a l.length c ∧ LayN W a l ∧ (a = none → c = 0) ∧ l.length ≤ c
theorem Cp.below {W W' : World} {v : Value} {l : List Nd} (h : Cp W v l) (hb : Below W.heap.size W W') : Cp W' v l := by
  obtain ⟨a, c, h1, h2, h3⟩ := h
  exact ⟨a, c, h1, h2.below hb, h3⟩
theorem copy_empty (W : World) (g c : Nat) (ao : Option Addr) (l : List Nd) (hl : LayN W ao l) (hm : l.length ≤ 1048576) :
    ∃ v' w', (Builtin.append_ #[22, 22] 22 #[.slice (some ⟨g, 0, none⟩) 0 0, .slice ao l.length c]).run Tryz.prog W = .ok v' w' ∧ Cp w' v' l ∧ Below W.heap.size W w' := by
  obtain ⟨i0, hi, hz0, hz1, hz2⟩ : ∃ i0, Tryz.prog.info? 40 = some i0 ∧ i0.zero = some (ndVal zeroN) ∧ i0.size = 4 ∧ i0.bytes = 48 := by
    have := infoN
    cases e : Tryz.prog.info? 40 with
    | none => rw [e] at this; cases this
    | some i0 =>
      rw [e] at this
      simp only [Option.map_some, Option.some.injEq, Prod.mk.injEq] at this
      exact ⟨i0, rfl, this.1, this.2.1, this.2.2⟩
  by_cases h0 : 0 < l.length
  · obtain ⟨ga, oa, e, hlt, hc⟩ := hl h0
    rw [app_empty W g l.length c _ rfl h0 (by omega) i0 hi hz1 hz2]
    have hl' : LayN W (some ⟨ga, oa, none⟩) l := by rw [← e]; exact hl
    subst e
    obtain ⟨v', w', h1, h2, h3, -⟩ := run_append_own (P := Tryz.prog) (w := W) W.heap.size 22 22 40 i0 _ 4 48 Tryz.underlying22 hi hz0 hz1 hz2 rfl (by decide) (.slice none 0 0) 0 [] (World.ownsRow_nil _ _ _ _) ⟨ga, oa, none⟩ l.length c (nodesC l) (nodes_len l) (lay_cells hl') (fun u hm => by
      obtain ⟨y, _, hy⟩ := List.mem_flatMap.1 hm
      exact nd_one y u hy) (by unfold maxLen; omega) (by omega) (Nat.le_refl _)
    rw [Nat.zero_add, List.nil_append] at h2
    obtain ⟨a2, c2, rfl, h4⟩ := lay_own h2
    refine ⟨_, w', h1, ⟨a2, c2, rfl, h4, fun e => ?_, ?_⟩, ⟨h3.os, h3.tape, h3.output, h3.size, fun k hk => h3.block k hk (fun e => by cases e)⟩⟩
    · subst e
      obtain ⟨_, _, e2, _⟩ := h4 h0
      cases e2
    · rcases h2.2 with ⟨e1, e2⟩ | ⟨g2, cap, cur, e1, _, _, h5, _⟩
      · omega
      · injection e1 with _ _ e5
        omega
  · obtain rfl : l = [] := by cases l with | nil => rfl | cons _ _ => simp at h0
    refine ⟨.slice (some ⟨g, 0, none⟩) 0 0, W, ?_, ⟨_, _, rfl, LayN.nil _ _, fun e => by (cases e), Nat.le_refl _⟩, Below.refl _ _⟩
    have hs : ∀ V : World, (loadCells ⟨g, 0, none⟩ 0).run Tryz.prog V = .ok #[] V := fun V => run_loadCells_list V ⟨g, 0, none⟩ [] (fun j v h => by simp at h)
    cases ao with
    | none => simp [Builtin.append_, run_underlying Tryz.underlying22, sizeOf, typeInfo, hi, hz1, hz2, Builtin.lenOf, Builtin.firstCells, storeCells]
    | some a0 =>
      have hs2 : (loadCells a0 0).run Tryz.prog W = .ok #[] W := run_loadCells_list W a0 [] (fun j v h => by simp at h)
      simp [Builtin.append_, run_underlying Tryz.underlying22, sizeOf, typeInfo, hi, hz1, hz2, Builtin.lenOf, Builtin.firstCells, storeCells, hs2]
end RC
end Go.Proofs.YtmpmmebmhffaeaaGreatDoor
