/- Layer 12: three lists of nodes out of the argument, of bounded bulk. (Written by tools/gen_rtarg.py.) -/
import Derived.Test.YtmpmmebmhffaeaaGreatDoorQRcLay
import Derived.Test.YtmpmmebmhffaeaaGreatDoorQRtK
set_option linter.all false
set_option maxRecDepth 100000
set_option maxHeartbeats 25600000
namespace Go.Proofs.YtmpmmebmhffaeaaGreatDoor
open Go.RowKit Go.Lib Go.BigFrame
open Go.ChangeShapes Go.WideShapes Go.ChangeAt
namespace RC
open OM TP TM TR TG TW TF

theorem lst_nil (W : World) : ∃ ts : List Nd, ts.length = 0 ∧ In W none 0 ts ∧ Lst W none 0 ts := ⟨[], rfl, Wide.nil W, ⟨LayN.nil _ _, fun _ => rfl, Nat.le_refl _, by simp, fun n hn => by simp at hn⟩⟩
theorem lst_of {W : World} {a0 : Option Addr} {cap len : Nat} (ts : List Nd) (h0 : ts.length = len) (h1 : LayN W a0 ts) (h2 : a0 = none → cap = 0) (h3 : ts.length ≤ cap) (h4 : SmallG ts) (h5 : ts.length ≤ 1048576) : ∃ ts : List Nd, ts.length = len ∧ In W a0 cap ts ∧ Lst W a0 cap ts :=
  ⟨ts, h0, ⟨h1, h2, h3, fun n hn => by have := (h4 n hn).1; unfold maxLen; omega, by unfold maxLen; omega⟩, ⟨h1, h2, h3, by unfold maxLen; omega, h4⟩⟩
theorem nodes_lst {H : Type} {enc : TypeId × Value → H} {W : World} {spare : Nat → Bool} {held : Bool} {fuel len cap : Nat} {a0 : Option Addr} {x : DataW H × List MemPlace}
    (h : DataW.trod enc Tryz.prog W 0 spare held fuel 22 (Value.slice a0 len cap).cells.toList = some x) (hb : Rows.uptoBulk x.1 ≤ 1048576) :
    ∃ ts : List Nd, ts.length = len ∧ In W a0 cap ts ∧ Lst W a0 cap ts := by
  rcases open_fours Tryz.underlying22 Tryz.underlying40 (by kernel_rfl) rfl rfl rfl rfl (by kernel_rfl) (by kernel_rfl) (by kernel_rfl) (by kernel_rfl) h with hcs | ⟨ad, len', cap', n, D, sp, hcs, hl, hm, hx, hcell⟩
  · simp [Value.cells] at hcs
    obtain ⟨rfl, rfl, rfl⟩ := hcs
    exact lst_nil W
  · simp [Value.cells] at hcs
    obtain ⟨rfl, rfl, rfl⟩ := hcs
    rw [hx, Rows.uptoBulk] at hb
    have hlen : len ≤ 1048576 := by
      have := bulk_len ((List.range len).map D)
      rw [List.length_map, List.length_range] at this
      omega
    have hch : ∀ i, i < len → ∃ r : Nd, W.cell? (ad.add (i * 4)) = some (txt r.path) ∧ W.cell? (ad.add (i * 4 + 1)) = some (.int .i64 r.kind) ∧ W.cell? (ad.add (i * 4 + 2)) = some (txt r.data) ∧ W.cell? (ad.add (i * 4 + 3)) = some (.int .i64 r.mode) ∧ r.path.length ≤ 1048576 ∧ r.data.length ≤ 1048576 := by
      intro i hi
      obtain ⟨v0, v1, v2, v3, y0, y1, y2, y3, e0, e1, e2, e3, hD, t0, t1, t2, t3⟩ := hcell i hi
      obtain ⟨s0, f0, g0, w0⟩ := DataW.trod_string (by exact Tryz.underlying9) t0
      obtain ⟨k1, f1, _, _⟩ := DataW.trod_int (by exact Tryz.underlying3) t1
      obtain ⟨s2, f2, g2, w2⟩ := DataW.trod_string (by exact Tryz.underlying9) t2
      obtain ⟨k3, f3, _, _⟩ := DataW.trod_int (by exact Tryz.underlying3) t3
      simp only [List.cons.injEq, and_true] at f0 f1 f2 f3
      have hm := bulk_mem (d := D i) (l := (List.range len).map D) (List.mem_map.2 ⟨i, List.mem_range.2 hi, rfl⟩)
      rw [hD, g0, g2] at hm
      simp only [Rows.uptoBulk, Rows.uptoBulkAll] at hm
      exact ⟨⟨s0.data.toList, k1, s2.data.toList, k3⟩, by rw [e0, f0, txt_data], by rw [e1, f1], by rw [e2, f2, txt_data], by rw [e3, f3], by show s0.data.toList.length ≤ _; omega, by show s2.data.toList.length ≤ _; omega⟩
    haveI : Inhabited Nd := ⟨⟨[], 0, [], 0⟩⟩
    obtain ⟨R, hR⟩ := Deep.choose_lt hch
    have hrl : ((List.range len).map R).length = len := by simp
    refine lst_of ((List.range len).map R) hrl (fun h0 => ?_) (fun e => by cases e) (by rw [hrl]; exact hl) (fun m hm => ?_) (by rw [hrl]; exact hlen)
    · rw [hrl] at h0
      obtain ⟨b, off, spot⟩ := ad
      have c0 := (hR 0 (by omega)).1
      have hspot : spot = none := by simpa [Addr.add] using World.cell?_spot c0
      subst hspot
      rw [TF.add_plain] at c0
      refine ⟨b, off, rfl, (World.block_lt_of_cell? _ _ c0 :), fun k r hk => ?_⟩
      have hkl : k < len := by have := (List.getElem?_eq_some_iff.1 hk).1; rw [hrl] at this; exact this
      rw [List.getElem?_map, List.getElem?_range hkl] at hk
      simp only [Option.map_some, Option.some.injEq] at hk
      subst hk
      obtain ⟨d0, d1, d2, d3, _, _⟩ := hR k hkl
      rw [TF.add_plain] at d0 d1 d2 d3
      exact ⟨d0, by rw [← d1, Nat.add_assoc], by rw [← d2, Nat.add_assoc], by rw [← d3, Nat.add_assoc]⟩
    · obtain ⟨i, hi, rfl⟩ := List.mem_map.1 hm
      have := hR i (List.mem_range.1 hi)
      exact ⟨this.2.2.2.2.1, this.2.2.2.2.2⟩

set_option maxRecDepth 100000 in
theorem three_lst {H : Type} {enc : TypeId × Value → H} {W : World} {spare : Nat → Bool} {held : Bool} {r : Reach} {b0 : Nat} {v : Value} {d : DataW H} {p : List MemPlace} (hv : Value.okWide Tryz.prog W r b0 24 v) (h : DataW.Trod enc Tryz.prog W 0 spare held 24 v d p) (hb : Rows.uptoBulk d ≤ 1048576) :
    ∃ (ao aa ab : Option Addr) (co ca cb : Nat) (xo ta tb : List Nd), v = .agg #[.slice ao xo.length co, .slice aa ta.length ca, .slice ab tb.length cb] ∧ (In W ao co xo ∧ In W aa ca ta ∧ In W ab cb tb) ∧ (Lst W ao co xo ∧ Lst W aa ca ta ∧ Lst W ab cb tb) := by
  obtain ⟨v0, v1, v2, y0, y1, y2, n, rfl, rfl, _, t0, t1, t2⟩ := Go.Joins.open_agg3 (P := Tryz.prog) (t := 24) Tryz.underlying24 (by kernel_rfl) (by kernel_rfl) hv h
  obtain ⟨a0, l0, c0, rfl⟩ := slice_shape Tryz.underlying22 t0
  obtain ⟨a1, l1, c1, rfl⟩ := slice_shape Tryz.underlying22 t1
  obtain ⟨a2, l2, c2, rfl⟩ := slice_shape Tryz.underlying22 t2
  simp only [Rows.uptoBulk, Rows.uptoBulkAll, List.map_cons, List.map_nil] at hb
  obtain ⟨xo, rfl, h0, g0⟩ := nodes_lst t0 (by omega)
  obtain ⟨ta, rfl, h1, g1⟩ := nodes_lst t1 (by omega)
  obtain ⟨tb, rfl, h2, g2⟩ := nodes_lst t2 (by omega)
  exact ⟨a0, a1, a2, c0, c1, c2, xo, ta, tb, rfl, ⟨h0, h1, h2⟩, ⟨g0, g1, g2⟩⟩
end RC
end Go.Proofs.YtmpmmebmhffaeaaGreatDoor
