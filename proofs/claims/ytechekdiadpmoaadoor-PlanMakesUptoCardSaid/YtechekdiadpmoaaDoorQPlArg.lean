/- Layer 13: lists of pairs out of the arguments. -/
import Derived.Test.YtechekdiadpmoaaDoorQPlMem
import Derived.Test.YtechekdiadpmoaaDoorQKit
import Derived.Test.YtechekdiadpmoaaDoorRows
import Derived.Deep.Slices
import Derived.Deep.SlicePairs
import Derived.Lib.SmallJoins
set_option linter.all false
set_option maxRecDepth 100000
set_option maxHeartbeats 25600000
namespace Go.Proofs.YtechekdiadpmoaaDoor
open Go.RowKit Go.Lib
namespace PM
open OM TM PL

/- the arguments -/
theorem add_plain (b off k : Nat) : (⟨b, off, none⟩ : Addr).add k = ⟨b, off + k, none⟩ := by unfold Addr.add; split <;> simp_all
theorem bulk_pos {H : Type} (d : DataW H) : 1 ≤ Rows.uptoBulk d := by
  cases d with
  | lit l => cases l <;> simp [Rows.uptoBulk]
  | _ => simp [Rows.uptoBulk]
theorem bulk_len {H : Type} : ∀ (l : List (DataW H)), l.length ≤ Rows.uptoBulkAll l
  | [] => Nat.zero_le _
  | d :: r => by
    have := bulk_pos d
    have := bulk_len r
    rw [Rows.uptoBulkAll, List.length_cons]
    omega
theorem bulk_mem {H : Type} {d : DataW H} : ∀ {l : List (DataW H)}, d ∈ l → Rows.uptoBulk d ≤ Rows.uptoBulkAll l
  | e :: r, h => by
    rw [Rows.uptoBulkAll]
    rcases List.mem_cons.1 h with rfl | h
    · omega
    · have := bulk_mem h
      omega
section
open Go.Deep Go.ChangeShapes Go.WideShapes Go.ChangeAt
variable {H : Type} {enc : TypeId × Value → H} {W : World} {spare : Nat → Bool} {held : Bool}
theorem slice_shape {P : Program} {t e : TypeId} {base fuel : Nat} {v : Value} {x : DataW H × List MemPlace} (ht : P.underlying t = some (.slice e)) (h : DataW.trod enc P W base spare held fuel t [v] = some x) : ∃ a len cap, v = .slice a len cap := by
  rcases open_slice ht h with h0 | ⟨a, len, cap, m, n, D, Pl, h1, _⟩
  · have := h0.1
    simp only [List.cons.injEq, and_true] at this
    exact ⟨_, _, _, this⟩
  · simp only [List.cons.injEq, and_true] at h1
    exact ⟨_, _, _, h1⟩
theorem pairs_arg {t e : TypeId} {f0 f1 : Field} {fuel len cap : Nat} {a0 : Option Addr} {x : DataW H × List MemPlace} (ht : Tryd.prog.underlying t = some (.slice e)) (he : Tryd.prog.underlying e = some (.struct #[f0, f1]))
    (ce : Tryd.prog.cellsOf e = 2) (o0 : f0.offset = 0) (o1 : f1.offset = 1) (c0 : Tryd.prog.cellsOf f0.type = 1) (c1 : Tryd.prog.cellsOf f1.type = 1) (k0 : f0.type = 9) (k1 : f1.type = 3)
    (h : DataW.trod enc Tryd.prog W 0 spare held fuel t (Value.slice a0 len cap).cells.toList = some x) (hb : Rows.uptoBulk x.1 ≤ 1048576) :
    ∃ L : List Pi, L.length = len ∧ ArgP W a0 cap L := by
  rcases open_slice_pairs ht he ce o0 o1 c0 c1 h with ⟨hcs, hx⟩ | ⟨ad, len', cap', m, n, V0, V1, D0, D1, P0, P1, hcs, _, hl, hm, hmm, hx, hcell⟩
  · simp [Value.cells] at hcs
    obtain ⟨rfl, rfl, rfl⟩ := hcs
    exact ⟨[], rfl, ArgP.nil W⟩
  · simp [Value.cells] at hcs
    obtain ⟨rfl, rfl, rfl⟩ := hcs
    rw [hx] at hb
    simp only [Rows.uptoBulk] at hb
    have hlm : len ≤ m := by rw [hmm]; split <;> omega
    have hlen : len ≤ 1048576 := by
      have := bulk_len ((List.range len).map fun i => DataW.agg [D0 i, D1 i])
      rw [List.length_map, List.length_range] at this
      omega
    have hch : ∀ i, i < len → ∃ r : Pi, W.cell? (ad.add (i * 2)) = some (txt r.1) ∧ W.cell? (ad.add (i * 2 + 1)) = some (.int .i64 r.2) ∧ r.1.length ≤ 1048576 := by
      intro i hi
      obtain ⟨e0, e1, t0, t1⟩ := hcell i (by omega)
      rw [k0] at t0
      rw [k1] at t1
      obtain ⟨s0, g0, d0, w0⟩ := DataW.trod_string (by exact Tryd.underlying9) t0
      obtain ⟨i1, g1, d1, _⟩ := DataW.trod_int (by exact Tryd.underlying3) t1
      simp only [List.cons.injEq, and_true] at g0 g1
      have hm := bulk_mem (d := DataW.agg [D0 i, D1 i]) (l := (List.range len).map fun i => DataW.agg [D0 i, D1 i]) (List.mem_map.2 ⟨i, List.mem_range.2 hi, rfl⟩)
      simp only [Prod.mk.injEq] at d0 d1
      rw [d0.1] at hm
      simp only [Rows.uptoBulk, Rows.uptoBulkAll] at hm
      exact ⟨⟨s0.data.toList, i1⟩, by rw [e0, g0, txt_data], by rw [e1, g1], by show s0.data.toList.length ≤ _; omega⟩
    haveI : Inhabited Pi := ⟨([], 0)⟩
    obtain ⟨R, hR⟩ := Deep.choose_lt hch
    have hrl : ((List.range len).map R).length = len := by simp
    refine ⟨(List.range len).map R, hrl, fun h0 => ?_, (fun e => by cases e), by rw [hrl]; exact hl, by rw [hrl]; exact hlen, fun m hm => ?_⟩
    · rw [hrl] at h0
      obtain ⟨b, off, spot⟩ := ad
      have cc := (hR 0 (by omega)).1
      have hspot : spot = none := by simpa [Addr.add] using World.cell?_spot cc
      subst hspot
      rw [add_plain] at cc
      refine ⟨b, off, rfl, (World.block_lt_of_cell? _ _ cc :), fun k r hk => ?_⟩
      have hkl : k < len := by have := (List.getElem?_eq_some_iff.1 hk).1; rw [hrl] at this; exact this
      rw [List.getElem?_map, List.getElem?_range hkl] at hk
      simp only [Option.map_some, Option.some.injEq] at hk
      subst hk
      obtain ⟨d0, d1, _⟩ := hR k hkl
      rw [add_plain] at d0 d1
      exact ⟨d0, by rw [← d1, Nat.add_assoc]⟩
    · obtain ⟨i, hi, rfl⟩ := List.mem_map.1 hm
      exact (hR i (List.mem_range.1 hi)).2.2
theorem progs_arg {t e : TypeId} {f0 f1 : Field} {fuel len cap : Nat} {a0 : Option Addr} {x : DataW H × List MemPlace} (ht : Tryd.prog.underlying t = some (.slice e)) (he : Tryd.prog.underlying e = some (.struct #[f0, f1]))
    (ce : Tryd.prog.cellsOf e = 2) (o0 : f0.offset = 0) (o1 : f1.offset = 1) (c0 : Tryd.prog.cellsOf f0.type = 1) (c1 : Tryd.prog.cellsOf f1.type = 1) (k0 : f0.type = 9) (k1 : f1.type = 9)
    (h : DataW.trod enc Tryd.prog W 0 spare held fuel t (Value.slice a0 len cap).cells.toList = some x) (hb : Rows.uptoBulk x.1 ≤ 1048576) :
    ∃ L : List Pm, L.length = len ∧ ArgM W a0 cap L := by
  rcases open_slice_pairs ht he ce o0 o1 c0 c1 h with ⟨hcs, hx⟩ | ⟨ad, len', cap', m, n, V0, V1, D0, D1, P0, P1, hcs, _, hl, hm, hmm, hx, hcell⟩
  · simp [Value.cells] at hcs
    obtain ⟨rfl, rfl, rfl⟩ := hcs
    exact ⟨[], rfl, ArgM.nil W⟩
  · simp [Value.cells] at hcs
    obtain ⟨rfl, rfl, rfl⟩ := hcs
    rw [hx] at hb
    simp only [Rows.uptoBulk] at hb
    have hlm : len ≤ m := by rw [hmm]; split <;> omega
    have hlen : len ≤ 1048576 := by
      have := bulk_len ((List.range len).map fun i => DataW.agg [D0 i, D1 i])
      rw [List.length_map, List.length_range] at this
      omega
    have hch : ∀ i, i < len → ∃ r : Pm, W.cell? (ad.add (i * 2)) = some (txt r.1) ∧ W.cell? (ad.add (i * 2 + 1)) = some (txt r.2) ∧ r.1.length ≤ 1048576 ∧ r.2.length ≤ 1048576 := by
      intro i hi
      obtain ⟨e0, e1, t0, t1⟩ := hcell i (by omega)
      rw [k0] at t0
      rw [k1] at t1
      obtain ⟨s0, g0, d0, w0⟩ := DataW.trod_string (by exact Tryd.underlying9) t0
      obtain ⟨s1, g1, d1, w1⟩ := DataW.trod_string (by exact Tryd.underlying9) t1
      simp only [List.cons.injEq, and_true] at g0 g1
      have hm := bulk_mem (d := DataW.agg [D0 i, D1 i]) (l := (List.range len).map fun i => DataW.agg [D0 i, D1 i]) (List.mem_map.2 ⟨i, List.mem_range.2 hi, rfl⟩)
      simp only [Prod.mk.injEq] at d0 d1
      rw [d0.1, d1.1] at hm
      simp only [Rows.uptoBulk, Rows.uptoBulkAll] at hm
      exact ⟨⟨s0.data.toList, s1.data.toList⟩, by rw [e0, g0, txt_data], by rw [e1, g1, txt_data], by show s0.data.toList.length ≤ _; omega, by show s1.data.toList.length ≤ _; omega⟩
    haveI : Inhabited Pm := ⟨([], [])⟩
    obtain ⟨R, hR⟩ := Deep.choose_lt hch
    have hrl : ((List.range len).map R).length = len := by simp
    refine ⟨(List.range len).map R, hrl, fun h0 => ?_, (fun e => by cases e), by rw [hrl]; exact hl, by rw [hrl]; exact hlen, fun m hm => ?_⟩
    · rw [hrl] at h0
      obtain ⟨b, off, spot⟩ := ad
      have cc := (hR 0 (by omega)).1
      have hspot : spot = none := by simpa [Addr.add] using World.cell?_spot cc
      subst hspot
      rw [add_plain] at cc
      refine ⟨b, off, rfl, (World.block_lt_of_cell? _ _ cc :), fun k r hk => ?_⟩
      have hkl : k < len := by have := (List.getElem?_eq_some_iff.1 hk).1; rw [hrl] at this; exact this
      rw [List.getElem?_map, List.getElem?_range hkl] at hk
      simp only [Option.map_some, Option.some.injEq] at hk
      subst hk
      obtain ⟨d0, d1, _⟩ := hR k hkl
      rw [add_plain] at d0 d1
      exact ⟨d0, by rw [← d1, Nat.add_assoc]⟩
    · obtain ⟨i, hi, rfl⟩ := List.mem_map.1 hm
      exact (hR i (List.mem_range.1 hi)).2.2
end
end PM
end Go.Proofs.YtechekdiadpmoaaDoor
