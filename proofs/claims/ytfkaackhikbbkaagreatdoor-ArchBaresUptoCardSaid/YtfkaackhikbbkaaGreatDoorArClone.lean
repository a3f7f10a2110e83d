/- Layer 6: the contracts of slices.Clone, slices.Grow, slices.Concat at lists of nodes. -/
import Derived.Test.YtfkaackhikbbkaaGreatDoorArMake
import Derived.Lib.AppendZeros
import Derived.Lib.SliceRun
namespace Go.Proofs.YtfkaackhikbbkaaGreatDoor
open Go.RowKit Go.Lib Go.BigFrame
namespace TG
open OM TP TM TR

theorem nodes_app (a b : List Nd) : nodesC (a ++ b) = nodesC a ++ nodesC b := by
  unfold nodesC
  rw [List.flatMap_append]
/-- A list of nodes somewhere in memory. -/
structure Pc where
  a : Option Addr
  c : Nat
  l : List Nd
/-- It lies there, and nil has no room. -/
structure PcOk (w : World) (e : Pc) : Prop where
  lay : LayN w e.a e.l
  nil : e.a = none → e.c = 0
theorem PcOk.below {w w' : World} {e : Pc} (h : PcOk w e) (hb : Below w.heap.size w w') : PcOk w' e := ⟨h.lay.below hb, h.nil⟩
theorem PcOk.none {w : World} {e : Pc} (h : PcOk w e) (ha : e.a = none) : e.l = [] := by
  rcases Nat.eq_zero_or_pos e.l.length with h0 | h0
  · exact List.length_eq_zero_iff.1 h0
  · obtain ⟨g, o, h', _⟩ := h.lay h0
    rw [ha] at h'
    cases h'
set_option maxRecDepth 100000 in
set_option maxHeartbeats 1600000 in
theorem clone_any (ao : Option Addr) (cap : Nat) (v : List Nd) (w : World) (h : LayN w ao v) (hno : ao = none → cap = 0) (hl : v.length ≤ 1000) :
    Calls Tryz.prog 26 #[.slice ao v.length cap] w (AtPost v w) := by
  obtain ⟨i0, hi, hz0, hz1, hz2⟩ := info_parts infoN
  cases ao with
  | none =>
    have h0 : v = [] := (PcOk.none (e := ⟨none, cap, v⟩) ⟨h, hno⟩ rfl)
    subst h0
    have hc := hno rfl
    subst hc
    have q0 := fun W => Lib.run_eql_slice_nil (P := Tryz.prog) W 22 _ none 0 0 0 0 Tryz.underlying22
    go_enter Tryz.func26, Tryz.ntmps26
    repeat (first | go_skip | go_guarded | go_step | go_upon)
    go_ret
    exact AtPost.nil rfl (Below.refl _ _)
  | some ad =>
    have HNws : Hid (∀ W, Below w.heap.size w W → ∀ (j : Nat) (u : Value), (nodesC v)[j]? = some u → W.cell? (ad.add j) = some u) := Lib.hid (fun W hW => lay_cells (h.below hW))
    have HNl : Hid ((nodesC v).length = v.length * 4) := Lib.hid (nodes_len v)
    have HNd : Hid (∀ u ∈ nodesC v, u.oneCell' = true) := Lib.hid (nds_one v)
    have HOw : Hid ((w.alloc (.cells #[] 25)).ownsRow w.heap.size 25 4 (.slice (some ⟨w.heap.size, 0, none⟩) 0 0) 0 []) := Lib.hid (World.ownsRow_made w #[] 0 (Nat.le_refl _) (Nat.zero_le _) rfl)
    have B0 : Hid (Below w.heap.size w (w.alloc (.cells #[] 25))) := Lib.hid ((Below.refl _ _).alloc (Nat.le_refl _) _)
    obtain ⟨n, hn⟩ : ∃ n, v.length = n := ⟨_, rfl⟩
    have HN := Lib.hid hn
    rw [hn] at hl HNl ⊢
    have q0 := fun W => Lib.run_eql_slice_nil (P := Tryz.prog) W 22 _ (some ad) n cap 0 0 Tryz.underlying22
    clear h hno hn
    go_enter Tryz.func26, Tryz.ntmps26
    repeat (first
      | (at_builtin; refine wpList_append_own _ rfl _ _ 22 rfl w.heap.size 25 i0 (ndVal zeroN) 4 48 Tryz.underlying22 hi hz0 hz1 hz2 rfl (by decide) _ _ _ rfl HOw.out ad n cap (nodesC v) rfl HNl.out (HNws.out _ B0.out) HNd.out (by unfold maxLen; omega) (by omega) (by simp) ?_; intro v' w5 hown' hgrow5 hnil5; have HO5 := Lib.hid hown'; have HB5 := Lib.hid (B0.out.grown hgrow5 (by simp) (fun j hj => (HOw.out.lt j hj).1)); clear hown' hgrow5 hnil5)
      | go_skip | go_guarded | go_step | go_upon)
    go_ret
    refine ⟨_, rfl, ?_, HB5.out⟩
    have := HO5.out
    rw [Nat.zero_add, List.nil_append] at this
    rw [HN.out]
    exact this
end TG
end Go.Proofs.YtfkaackhikbbkaaGreatDoor
