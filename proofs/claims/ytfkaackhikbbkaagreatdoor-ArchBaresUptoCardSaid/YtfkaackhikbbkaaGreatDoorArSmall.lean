/- Layer 9: archives out of the arguments, of bounded bulk. -/
import Derived.Test.YtfkaackhikbbkaaGreatDoorMg3
import Derived.Test.YtfkaackhikbbkaaGreatDoorArFrame
namespace Go.Proofs.YtfkaackhikbbkaaGreatDoor
open Go.ChangeShapes Go.WideShapes Go.ChangeAt Go.RowKit Go.Lib
namespace FS
open TM TP TR TG TW AP AR TF

theorem bulk_pos {H : Type} (d : DataW H) : 1 ≤ Rows.uptoBulk d := by
  cases d with
  | lit l => cases l <;> simp [Rows.uptoBulk]
  | _ => simp [Rows.uptoBulk]
theorem bulk_len {H : Type} : ∀ (l : List (DataW H)), l.length ≤ Rows.uptoBulkAll l
  | [] => Nat.zero_le _
  | d :: r => by
    have := bulk_pos d
    have := bulk_len r
    rw [Rows.uptoBulkAll, List.length_cons]
    omega
theorem bulk_mem {H : Type} {d : DataW H} : ∀ {l : List (DataW H)}, d ∈ l → Rows.uptoBulk d ≤ Rows.uptoBulkAll l
  | e :: r, h => by
    rw [Rows.uptoBulkAll]
    rcases List.mem_cons.1 h with rfl | h
    · omega
    · have := bulk_mem h
      omega
theorem nodes_few {H : Type} {enc : TypeId × Value → H} {W : World} {spare : Nat → Bool} {held : Bool} {fuel len cap : Nat} {a0 : Option Addr} {x : DataW H × List MemPlace}
    (h : DataW.trod enc Tryz.prog W 0 spare held fuel 22 (Value.slice a0 len cap).cells.toList = some x) (hb : Rows.uptoBulk x.1 ≤ 1048576) :
    len ≤ 1048576 := by
  rcases open_fours Tryz.underlying22 Tryz.underlying25 (by kernel_rfl) rfl rfl rfl rfl (by kernel_rfl) (by kernel_rfl) (by kernel_rfl) (by kernel_rfl) h with hcs | ⟨ad, len', cap', n, D, sp, hcs, hl, hm, hx, hcell⟩
  · simp [Value.cells] at hcs
    obtain ⟨rfl, rfl, rfl⟩ := hcs
    exact Nat.zero_le _
  · simp [Value.cells] at hcs
    obtain ⟨rfl, rfl, rfl⟩ := hcs
    rw [hx, Rows.uptoBulk] at hb
    have hlen : len ≤ 1048576 := by
      have := bulk_len ((List.range len).map D)
      rw [List.length_map, List.length_range] at this
      omega
    exact hlen
theorem nodes_small {H : Type} {enc : TypeId × Value → H} {W : World} {spare : Nat → Bool} {held : Bool} {fuel len cap : Nat} {a0 : Option Addr} {x : DataW H × List MemPlace}
    (h : DataW.trod enc Tryz.prog W 0 spare held fuel 22 (Value.slice a0 len cap).cells.toList = some x) (hb : Rows.uptoBulk x.1 ≤ 1048576) :
    ∃ ts : List Nd, ts.length = len ∧ Wide W a0 cap ts ∧ Small ts := by
  rcases open_fours Tryz.underlying22 Tryz.underlying25 (by kernel_rfl) rfl rfl rfl rfl (by kernel_rfl) (by kernel_rfl) (by kernel_rfl) (by kernel_rfl) h with hcs | ⟨ad, len', cap', n, D, sp, hcs, hl, hm, hx, hcell⟩
  · simp [Value.cells] at hcs
    obtain ⟨rfl, rfl, rfl⟩ := hcs
    exact ⟨[], rfl, Wide.nil W, fun n hn => by simp at hn⟩
  · simp [Value.cells] at hcs
    obtain ⟨rfl, rfl, rfl⟩ := hcs
    rw [hx, Rows.uptoBulk] at hb
    have hlen : len ≤ 1048576 := by
      have := bulk_len ((List.range len).map D)
      rw [List.length_map, List.length_range] at this
      omega
    have hch : ∀ i, i < len → ∃ r : Nd, W.cell? (ad.add (i * 4)) = some (txt r.path) ∧ W.cell? (ad.add (i * 4 + 1)) = some (.int .i64 r.kind) ∧ W.cell? (ad.add (i * 4 + 2)) = some (txt r.data) ∧ W.cell? (ad.add (i * 4 + 3)) = some (.int .i64 r.mode) ∧ r.path.length ≤ 1048576 ∧ r.data.length ≤ 1048576 := by
      intro i hi
      obtain ⟨v0, v1, v2, v3, y0, y1, y2, y3, e0, e1, e2, e3, hD, t0, t1, t2, t3⟩ := hcell i hi
      obtain ⟨s0, f0, g0, w0⟩ := DataW.trod_string (by exact Tryz.underlying9) t0
      obtain ⟨k1, f1, _, _⟩ := DataW.trod_int (by exact Tryz.underlying3) t1
      obtain ⟨s2, f2, g2, w2⟩ := DataW.trod_string (by exact Tryz.underlying9) t2
      obtain ⟨k3, f3, _, _⟩ := DataW.trod_int (by exact Tryz.underlying3) t3
      simp only [List.cons.injEq, and_true] at f0 f1 f2 f3
      have hm := bulk_mem (d := D i) (l := (List.range len).map D) (List.mem_map.2 ⟨i, List.mem_range.2 hi, rfl⟩)
      rw [hD, g0, g2] at hm
      simp only [Rows.uptoBulk, Rows.uptoBulkAll] at hm
      exact ⟨⟨s0.data.toList, k1, s2.data.toList, k3⟩, by rw [e0, f0, txt_data], by rw [e1, f1], by rw [e2, f2, txt_data], by rw [e3, f3], by show s0.data.toList.length ≤ _; omega, by show s2.data.toList.length ≤ _; omega⟩
    haveI : Inhabited Nd := ⟨⟨[], 0, [], 0⟩⟩
    obtain ⟨R, hR⟩ := Deep.choose_lt hch
    have hrl : ((List.range len).map R).length = len := by simp
    refine ⟨(List.range len).map R, hrl, ⟨fun h0 => ?_, (fun e => by cases e), by rw [hrl]; exact hl, fun m hm => ?_, by rw [hrl]; unfold maxLen; omega⟩, fun m hm => ?_⟩
    · rw [hrl] at h0
      obtain ⟨b, off, spot⟩ := ad
      have c0 := (hR 0 (by omega)).1
      have hspot : spot = none := by simpa [Addr.add] using World.cell?_spot c0
      subst hspot
      rw [TF.add_plain] at c0
      refine ⟨b, off, rfl, (World.block_lt_of_cell? _ _ c0 :), fun k r hk => ?_⟩
      have hkl : k < len := by have := (List.getElem?_eq_some_iff.1 hk).1; rw [hrl] at this; exact this
      rw [List.getElem?_map, List.getElem?_range hkl] at hk
      simp only [Option.map_some, Option.some.injEq] at hk
      subst hk
      obtain ⟨d0, d1, d2, d3, _, _⟩ := hR k hkl
      rw [TF.add_plain] at d0 d1 d2 d3
      exact ⟨d0, by rw [← d1, Nat.add_assoc], by rw [← d2, Nat.add_assoc], by rw [← d3, Nat.add_assoc]⟩
    · obtain ⟨i, hi, rfl⟩ := List.mem_map.1 hm
      have := (hR i (List.mem_range.1 hi)).2.2.2.2.1
      unfold maxLen
      omega
    · obtain ⟨i, hi, rfl⟩ := List.mem_map.1 hm
      have := hR i (List.mem_range.1 hi)
      exact ⟨this.2.2.2.2.1, this.2.2.2.2.2⟩
set_option maxRecDepth 100000 in
theorem arch_small {H : Type} {enc : TypeId × Value → H} {W : World} {r : Reach} {b0 : Nat} {spare : Nat → Bool} {held : Bool} {v : Value} {d : DataW H} {p : List MemPlace} (hv : Value.okWide Tryz.prog W r b0 35 v) (h : DataW.Trod enc Tryz.prog W 0 spare held 35 v d p) (hb : Rows.uptoBulk d ≤ 1048576) :
    ∃ (a : Ar) (ao : Option Addr) (ca : Nat) (so : Option Addr) (sc : Nat), v = arVal a ao ca so sc ∧ ArAt W a ao ca so ∧ Small a.tree := by
  obtain ⟨v0, v1, v2, v3, y0, y1, y2, y3, n, rfl, hd, _, t0, t1, t2, t3⟩ := Go.Joins.open_agg4 (P := Tryz.prog) (t := 35) Tryz.underlying35 (by kernel_rfl) (by kernel_rfl) hv h
  rw [hd] at hb
  simp only [Rows.uptoBulk, Rows.uptoBulkAll] at hb
  obtain ⟨s0, f0, g0, w0⟩ := DataW.trod_string (by exact Tryz.underlying9) t0
  obtain ⟨k1, f1, _, g1⟩ := DataW.trod_int (by exact Tryz.underlying3) t1
  simp only [List.cons.injEq, and_true] at f0 f1
  obtain ⟨ao, la, ca, rfl⟩ := FA.slice_shape Tryz.underlying22 t2
  obtain ⟨so, ls, sc, rfl⟩ := FA.slice_shape Tryz.underlying33 t3
  obtain ⟨ts, rfl, h2, h5⟩ := nodes_small t2 (by omega)
  obtain ⟨us, rfl, h3, h4⟩ := FA.stamps_wide t3
  refine ⟨⟨s0.data.toList, k1, ts, us⟩, ao, ca, so, sc, ?_, ⟨h2, h3, by show s0.data.toList.length ≤ _; rw [← Lib.size_eq]; exact w0, ⟨FA.wf_fits g1, h4⟩⟩, h5⟩
  unfold arVal
  rw [f0, f1, txt_data]
end FS
end Go.Proofs.YtfkaackhikbbkaaGreatDoor
