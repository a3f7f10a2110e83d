/- Layer 4: the contract of the program's after: the state behind so many blocks. -/
import Derived.Test.YtmpmmebmhffaeaaDoorQHashBehind
set_option linter.all false
set_option maxRecDepth 100000
set_option maxHeartbeats 25600000
namespace Go.Proofs.YtmpmmebmhffaeaaDoor
open Go.RowKit Go.Lib
namespace HQ
open HP HS HR

theorem words_block (v : St) (l : List UInt8) : Words (blockN v l) := by
  obtain ⟨a, b, c, d, e, f, g, h⟩ := v
  intro x hx
  unfold blockN at hx
  generalize rounds (a, b, c, d, e, f, g, h) roundK (schedGo 48 (words16 l)) = u at hx
  obtain ⟨a', b', c', d', e', f', g', h'⟩ := u
  simp only [addSt, stL, List.mem_cons, List.not_mem_nil, or_false] at hx
  rcases hx with hx | hx | hx | hx | hx | hx | hx | hx <;> omega
theorem take_of2 (s : ByteArray) (k : Nat) : (s.extract 0 k).data.toList = s.data.toList.take k := by rw [Lib.extract_data]; simp
theorem drop_of2 (s : ByteArray) (k : Nat) : (s.extract k s.size).data.toList = s.data.toList.drop k := Lib.extract_to_end s k
theorem below_drew {B : Nat} {a w : World} (h : Below B a w) : Below B a w.drew := h.drew
theorem cells8 (a b c d e f g h : Nat) : cellsU [a, b, c, d, e, f, g, h] = #[.int .u32 a, .int .u32 b, .int .u32 c, .int .u32 d, .int .u32 e, .int .u32 f, .int .u32 g, .int .u32 h] := rfl
set_option maxRecDepth 100000 in
set_option maxHeartbeats 1600000 in
theorem after_any (v : St) (p : ByteArray) (w : World) (he : Env w) (hv : Words v) (hm : p.size % 64 = 0) (hs : p.size ≤ maxLen) :
    Calls Tryd.prog 46 #[.agg (cellsU (stL v)), .string p] w fun r w' => r = .returned (.agg (cellsU (stL (blocks (p.size / 64) v p.data.toList)))) ∧ Below w.heap.size w w' := by
  unfold maxLen at hs
  have HE := Lib.hid he
  have HV := Lib.hid hv
  obtain ⟨T, hT⟩ : ∃ T, blocks (p.size / 64) v p.data.toList = T := ⟨_, rfl⟩
  rw [hT]
  have HT := Lib.hid hT
  have HM := Lib.hid hm
  clear he hv hT hm
  go_enter Tryd.func46, Tryd.ntmps46
  go_wp2
  rw [zero8]
  go_loopw [1] (fun s1 wr => ∃ (q : ByteArray) (u : St), s1 = .string q ∧ q.size % 64 = 0 ∧ q.size ≤ 2 ^ 63 - 1 ∧ blocks (q.size / 64) u q.data.toList = T ∧ Words u ∧ Row wr w.heap.size (stL u) 99 ∧ Row wr (w.heap.size + 1) (List.replicate 8 0) 99 ∧ Below w.heap.size w wr) (fun s1 _ => match s1 with | .string q => q.size | _ => 0)
  case atStart => exact ⟨p, v, rfl, HM.out, hs, HT.out, HV.out, (Row.new w _ _).alloc _, Row.newAt _ _ _ (by simp), ((Below.refl _ _).alloc (Nat.le_refl _) _).alloc (by simp) _⟩
  case round =>
    obtain ⟨q, u, rfl, hqm, hql, hq, hu, h1, h2, hb⟩ := hrel
    have HQm := Lib.hid hqm
    have HQ := Lib.hid hq
    have HU := Lib.hid hu
    have H1 := Lib.hid h1
    have H2 := Lib.hid h2
    have HB := Lib.hid hb
    clear hqm hq hu h1 h2 hb
    by_cases hne : q.size = 0
    · have hqe : (q.toList == []) = true := by
        rw [Lib.toList_data]
        have := Lib.size_eq q
        have h0 : q.data.toList = [] := List.eq_nil_of_length_eq_zero (by omega)
        rw [h0]
        rfl
      have hT : T = u := by rw [← HQ.out, hne]; rfl
      have HTu := Lib.hid hT
      have hul := stL_len u
      obtain ⟨Z, hZ⟩ : ∃ Z, stL u = Z := ⟨_, rfl⟩
      rw [hZ] at hul
      have H1 := H1.out
      rw [hZ] at H1
      have H1' := Lib.hid H1
      have HZ := Lib.hid hZ
      have HZl := Lib.hid hul
      clear hT hul hZ H1 hne
      go_wp2_with (first | (refine wpList_load_row rfl 99 _ rfl _ rfl 99 _ (0, 0) _ H1'.out Tryd.underlying99 rfl (by rw [cellsU_size, HZl.out]; kernel_rfl) ?_) | (refine wpList_store_row rfl 99 _ _ rfl _ _ rfl rfl 99 _ H2.out (by rw [cellsU_size, HZl.out]; kernel_rfl) (by rw [cellsU_size, cellsU_size, HZl.out]; rfl) (cellsU_one _) ?_))
      refine bodyPost_ret (v := .agg (cellsU Z)) ?_ rfl ⟨by rw [HTu.out, HZ.out], below_setRow HB.out (by omega) _⟩
      exact results_cell_row rfl _ _ (w.heap.size + 1) 99 (cellsU Z) (0, 0) _ rfl (H2.out.setRow Z) Tryd.underlying99 rfl (by rw [cellsU_size, HZl.out]; kernel_rfl)
    · have h64 : 64 ≤ q.size := by have := HQm.out; omega
      have hsz : (q.extract 0 64).size = 64 := by rw [Lib.size_eq, take_of2, List.length_take, ← Lib.size_eq]; omega
      obtain ⟨a, b, c, d, e, f, g, h⟩ := u
      obtain ⟨u', hu'⟩ : ∃ u', blockN (a, b, c, d, e, f, g, h) (q.extract 0 64).data.toList = u' := ⟨_, rfl⟩
      obtain ⟨a', b', c', d', e', f', g', h'⟩ := u'
      have c0 : wr.cell? ⟨w.heap.size, 0, none⟩ = some (.int .u32 (a : Nat)) := H1.out.cell rfl
      have c1 : wr.cell? ⟨w.heap.size, 1, none⟩ = some (.int .u32 (b : Nat)) := H1.out.cell rfl
      have c2 : wr.cell? ⟨w.heap.size, 2, none⟩ = some (.int .u32 (c : Nat)) := H1.out.cell rfl
      have c3 : wr.cell? ⟨w.heap.size, 3, none⟩ = some (.int .u32 (d : Nat)) := H1.out.cell rfl
      have c4 : wr.cell? ⟨w.heap.size, 4, none⟩ = some (.int .u32 (e : Nat)) := H1.out.cell rfl
      have c5 : wr.cell? ⟨w.heap.size, 5, none⟩ = some (.int .u32 (f : Nat)) := H1.out.cell rfl
      have c6 : wr.cell? ⟨w.heap.size, 6, none⟩ = some (.int .u32 (g : Nat)) := H1.out.cell rfl
      have c7 : wr.cell? ⟨w.heap.size, 7, none⟩ = some (.int .u32 (h : Nat)) := H1.out.cell rfl

      have HEr := Lib.hid (HE.out.below HB.out)
      have cB : Calls Tryd.prog 58 #[.agg #[.int .u32 a, .int .u32 b, .int .u32 c, .int .u32 d, .int .u32 e, .int .u32 f, .int .u32 g, .int .u32 h], .string (q.extract 0 64)] wr.drew fun r w' => r = .returned (.agg #[.int .u32 a', .int .u32 b', .int .u32 c', .int .u32 d', .int .u32 e', .int .u32 f', .int .u32 g', .int .u32 h']) ∧ Below wr.heap.size wr w' := by
        have hx := behind_any a b c d e f g h (q.extract 0 64) wr.drew (HEr.out.below (Below.drew (Below.refl _ _))) hsz HU.out
        rw [hu'] at hx
        exact hx.mono fun r w' k => ⟨k.1, ⟨k.2.os, k.2.tape, k.2.output, k.2.size, k.2.block⟩⟩
      have CB := Lib.hid cB
      have HU' := Lib.hid hu'
      have h64z : (64 : Int) ≤ q.size := by omega
      have hqe : (q.toList == []) = false := by
        rw [Lib.toList_data]
        cases hx : q.data.toList with
        | nil => have := Lib.size_eq q; rw [hx, List.length_nil] at this; omega
        | cons => rfl
      have hblt : w.heap.size < wr.heap.size := H1.out.lt
      clear cB hu'
      clear hsz
      go_wp2_with fail
      go_region_with ((go_at_call 58; refine CB.out.mono ?_; rintro r w2 ⟨rfl, hb2⟩; have d0 := (hb2.cell (p := ⟨w.heap.size, 0, none⟩) hblt).trans c0; have f0 := (hb2.frozen (p := ⟨w.heap.size, 0, none⟩) hblt).trans (H1.out.frozen 0); have d1 := (hb2.cell (p := ⟨w.heap.size, 1, none⟩) hblt).trans c1; have f1 := (hb2.frozen (p := ⟨w.heap.size, 1, none⟩) hblt).trans (H1.out.frozen 1); have d2 := (hb2.cell (p := ⟨w.heap.size, 2, none⟩) hblt).trans c2; have f2 := (hb2.frozen (p := ⟨w.heap.size, 2, none⟩) hblt).trans (H1.out.frozen 2); have d3 := (hb2.cell (p := ⟨w.heap.size, 3, none⟩) hblt).trans c3; have f3 := (hb2.frozen (p := ⟨w.heap.size, 3, none⟩) hblt).trans (H1.out.frozen 3); have d4 := (hb2.cell (p := ⟨w.heap.size, 4, none⟩) hblt).trans c4; have f4 := (hb2.frozen (p := ⟨w.heap.size, 4, none⟩) hblt).trans (H1.out.frozen 4); have d5 := (hb2.cell (p := ⟨w.heap.size, 5, none⟩) hblt).trans c5; have f5 := (hb2.frozen (p := ⟨w.heap.size, 5, none⟩) hblt).trans (H1.out.frozen 5); have d6 := (hb2.cell (p := ⟨w.heap.size, 6, none⟩) hblt).trans c6; have f6 := (hb2.frozen (p := ⟨w.heap.size, 6, none⟩) hblt).trans (H1.out.frozen 6); have d7 := (hb2.cell (p := ⟨w.heap.size, 7, none⟩) hblt).trans c7; have f7 := (hb2.frozen (p := ⟨w.heap.size, 7, none⟩) hblt).trans (H1.out.frozen 7); have HB2 := Lib.hid hb2; clear hb2))
      all_goals (try go_wp2_with fail)
      all_goals
        go_roundw
        case rel =>
          have hx : (q.extract 64 q.size).size = q.size - 64 := by rw [Lib.size_eq, drop_of2, List.length_drop, ← Lib.size_eq]
          have g1 := (H1.out.below HB2.out hblt)
          have g2 := ((((((((g1.set 0 a').set 1 b').set 2 c').set 3 d').set 4 e').set 5 f').set 6 g').set 7 h')
          have k2 := H2.out.below HB2.out H2.out.lt
          refine ⟨q.extract 64 q.size, (a', b', c', d', e', f', g', h'), rfl, ?_, ?_, ?_, ?_, g2, ?_, ?_⟩
          · rw [hx]; have := HQm.out; omega
          · rw [hx]; omega
          · rw [← HQ.out, hx, drop_of2, show q.size / 64 = (q.size - 64) / 64 + 1 by omega, blocks, ← take_of2, HU'.out]
          · rw [← HU'.out]; exact words_block _ _
          · exact (((((((k2.setOther _ (by simp)).setOther _ (by simp)).setOther _ (by simp)).setOther _ (by simp)).setOther _ (by simp)).setOther _ (by simp)).setOther _ (by simp)).setOther _ (by simp)
          · exact ((((((((Below.trans HB.out (HB2.out.mono HB.out.size)).setCell (by simp) _).setCell (by simp) _).setCell (by simp) _).setCell (by simp) _).setCell (by simp) _).setCell (by simp) _).setCell (by simp) _).setCell (by simp) _
        case measure =>
          have hx : (q.extract 64 q.size).size = q.size - 64 := by rw [Lib.size_eq, drop_of2, List.length_drop, ← Lib.size_eq]
          show (q.extract 64 q.size).size < q.size
          omega
end HQ
end Go.Proofs.YtmpmmebmhffaeaaDoor
