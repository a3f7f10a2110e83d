/- Layer 12: the walk of ReconEven. -/
import Derived.Test.YtechekdiadpmoaaDoorQRcLay
set_option linter.all false
set_option maxRecDepth 100000
set_option maxHeartbeats 25600000
namespace Go.Proofs.YtechekdiadpmoaaDoor
open Go.RowKit Go.Lib Go.Maps Go.BigFrame Go.Sort
namespace RC
open OM TP TM TR TG TW NP

theorem cells3 {W : World} {B : Nat} {t : TypeId} {a b c : Value} (h : W.heap[B]? = some (.cells #[a, b, c] t (0, 0))) : W.cell? ⟨B, 0, none⟩ = some a ∧ W.cell? ⟨B, 1, none⟩ = some b ∧ W.cell? ⟨B, 2, none⟩ = some c := by simp [World.cell?, h]
set_option maxRecDepth 100000 in
set_option maxHeartbeats 6400000 in
theorem even_law (ao aa ab : Option Addr) (co ca cb : Nat) (xo ta tb : List Nd) (w : World) (he : NF.Env w) (lo : In w ao co xo) (la : In w aa ca ta) (lb : In w ab cb tb) :
    Calls Tryd.prog 3 #[.agg #[.slice ao xo.length co, .slice aa ta.length ca, .slice ab tb.length cb]] w fun r w' => r = .returned (.bool true) ∧ Below w.heap.size w w' := by
  have CW : Hid (∀ W, Below w.heap.size w W → Calls Tryd.prog 10 #[] W fun r w' => r = .returned (.bool true) ∧ Below W.heap.size W w') := Lib.hid (fun W hW => awake_any W (he.below hW))
  have C1 : ∀ W, Below w.heap.size w W → Calls Tryd.prog 11 #[.slice ao xo.length co, .slice aa ta.length ca, .slice ab tb.length cb] W fun r w' => ∃ u c, r = .returned (.tuple #[.slice u (itL xo ta tb).length c, .int .i64 (erL xo ta tb)]) ∧ LayI w' u (itL xo ta tb) ∧ Below W.heap.size W w' := fun W hW => itL_any (he.below hW) (lo.below hW) (la.below hW) (lb.below hW)
  have C2 : ∀ W, Below w.heap.size w W → Calls Tryd.prog 11 #[.slice ao xo.length co, .slice ab tb.length cb, .slice aa ta.length ca] W fun r w' => ∃ u c, r = .returned (.tuple #[.slice u (itL xo tb ta).length c, .int .i64 (erL xo tb ta)]) ∧ LayI w' u (itL xo tb ta) ∧ Below W.heap.size W w' := fun W hW => itL_any (he.below hW) (lo.below hW) (lb.below hW) (la.below hW)
  have C3 : ∀ W, Below w.heap.size w W → Calls Tryd.prog 12 #[.slice ao xo.length co, .slice aa ta.length ca, .slice ab tb.length cb] W fun r w' => ∃ u c, r = .returned (.tuple #[.slice u (agL xo ta tb).length c, .int .i64 (erL xo ta tb)]) ∧ LayN w' u (agL xo ta tb) ∧ Below W.heap.size W w' := fun W hW => agL_any (he.below hW) (lo.below hW) (la.below hW) (lb.below hW)
  have C4 : ∀ W, Below w.heap.size w W → Calls Tryd.prog 12 #[.slice ao xo.length co, .slice ab tb.length cb, .slice aa ta.length ca] W fun r w' => ∃ u c, r = .returned (.tuple #[.slice u (agL xo tb ta).length c, .int .i64 (erL xo tb ta)]) ∧ LayN w' u (agL xo tb ta) ∧ Below W.heap.size W w' := fun W hW => agL_any (he.below hW) (lo.below hW) (lb.below hW) (la.below hW)
  rw [itL_swap, erL_swap, List.length_map] at C2
  rw [agL_swap, erL_swap] at C4
  have hL := itL_len xo ta tb
  have hT := agL_len xo ta tb
  generalize itL xo ta tb = L at C1 C2 hL
  generalize agL xo ta tb = T at C3 C4 hT
  have hk : (erL xo ta tb != erL xo ta tb) = false := by simp
  generalize erL xo ta tb = ke at C1 C2 C3 C4 hk
  have CS : Hid (∀ W a1 c1 a2 c2, LayN W a1 T → LayN W a2 T → Calls Tryd.prog 13 #[.slice a1 T.length c1, .slice a2 T.length c2] W fun r w' => r = .returned (.bool true) ∧ Below W.heap.size W w') := Lib.hid (fun W a1 c1 a2 c2 h1 h2 => by
    have := rsame_any a1 a2 c1 c2 T T W h1 h2 (by unfold maxLen; omega) (by unfold maxLen; omega)
    rw [decide_eq_true rfl] at this
    exact this)
  obtain ⟨n, hn⟩ : ∃ n, L.length = n := ⟨_, rfl⟩
  obtain ⟨m, hm⟩ : ∃ n, T.length = n := ⟨_, rfl⟩
  obtain ⟨no, hno⟩ : ∃ n, xo.length = n := ⟨_, rfl⟩
  obtain ⟨na, hna⟩ : ∃ n, ta.length = n := ⟨_, rfl⟩
  obtain ⟨nb, hnb⟩ : ∃ n, tb.length = n := ⟨_, rfl⟩
  rw [hn, hno, hna, hnb] at C1 C2
  rw [hm, hno, hna, hnb] at C3 C4
  rw [hm] at CS
  rw [hno, hna, hnb]
  have H1 := Lib.hid C1
  have H2 := Lib.hid C2
  have H3 := Lib.hid C3
  have H4 := Lib.hid C4
  rw [hn] at hL
  have HN := Lib.hid hn
  clear hm hno hna hnb he lo la lb C1 C2 C3 C4 hT hn
  go_enter Tryd.func3, Tryd.ntmps3
  repeat (first | go_skip | go_guarded | go_step | go_upon)
  have A0 : Hid (Below w.heap.size w (w.alloc (.cells #[.slice ao no co, .slice aa na ca, .slice ab nb cb] 24))) := Lib.hid ((Below.refl _ _).alloc (Nat.le_refl _) _)
  have HX : Hid (∀ W, Below (w.alloc (.cells #[.slice ao no co, .slice aa na ca, .slice ab nb cb] 24)).heap.size (w.alloc (.cells #[.slice ao no co, .slice aa na ca, .slice ab nb cb] 24)) W → W.cell? ⟨w.heap.size, 0, none⟩ = some (.slice ao no co) ∧ W.cell? ⟨w.heap.size, 1, none⟩ = some (.slice aa na ca) ∧ W.cell? ⟨w.heap.size, 2, none⟩ = some (.slice ab nb cb)) := Lib.hid (fun W hW => by
    have hl : w.heap.size < (w.alloc (.cells #[.slice ao no co, .slice aa na ca, .slice ab nb cb] 24)).heap.size := by simp
    have hh : (w.alloc (.cells #[.slice ao no co, .slice aa na ca, .slice ab nb cb] 24)).heap[w.heap.size]? = some (.cells #[.slice ao no co, .slice aa na ca, .slice ab nb cb] 24 (0, 0)) := heap_alloc_new w _
    obtain ⟨d0, d1, d2⟩ := cells3 hh
    exact ⟨(hW.cell (p := ⟨w.heap.size, 0, none⟩) hl).trans d0, (hW.cell (p := ⟨w.heap.size, 1, none⟩) hl).trans d1, (hW.cell (p := ⟨w.heap.size, 2, none⟩) hl).trans d2⟩)
  generalize w.alloc (.cells #[.slice ao no co, .slice aa na ca, .slice ab nb cb] 24) = w0 at A0 HX ⊢
  have TR : Hid (∀ W, Below w0.heap.size w0 W → Below w.heap.size w W) := Lib.hid (fun W hW => A0.out.trans (hW.mono A0.out.size))
  refine (CW.out _ A0.out).mono ?_
  rintro r w1 ⟨rfl, hb⟩
  simp only []
  have B1 : Hid (Below w0.heap.size w0 w1) := Lib.hid hb
  obtain ⟨x0, x1, x2⟩ := HX.out _ hb
  clear hb
  repeat (first | go_skip | go_guarded | go_step | go_upon)
  refine (H1.out _ (TR.out _ B1.out)).mono ?_
  rintro r w2 ⟨u2, c2, rfl, hl2, hb⟩
  simp only []
  have B2 : Hid (Below w0.heap.size w0 w2) := Lib.hid (B1.out.trans (hb.mono B1.out.size))
  have L2 := Lib.hid hl2
  clear hb hl2 x0 x1 x2
  obtain ⟨x0, x1, x2⟩ := HX.out _ B2.out
  repeat (first | go_skip | go_guarded | go_step | go_upon)
  refine (H2.out _ (TR.out _ B2.out)).mono ?_
  rintro r w3 ⟨u3, c3, rfl, hl3, hb⟩
  simp only []
  have B3 : Hid (Below w0.heap.size w0 w3) := Lib.hid (B2.out.trans (hb.mono B2.out.size))
  have L2 := Lib.hid (L2.out.below hb)
  have L3 := Lib.hid hl3
  clear hb hl3 x0 x1 x2
  obtain ⟨x0, x1, x2⟩ := HX.out _ B3.out
  repeat (first | go_skip | go_guarded | go_step | go_upon)
  refine (H3.out _ (TR.out _ B3.out)).mono ?_
  rintro r w4 ⟨u4, c4, rfl, hl4, hb⟩
  simp only []
  have B4 : Hid (Below w0.heap.size w0 w4) := Lib.hid (B3.out.trans (hb.mono B3.out.size))
  have L2 := Lib.hid (L2.out.below hb)
  have L3 := Lib.hid (L3.out.below hb)
  have L4 := Lib.hid hl4
  clear hb hl4 x0 x1 x2
  obtain ⟨x0, x1, x2⟩ := HX.out _ B4.out
  repeat (first | go_skip | go_guarded | go_step | go_upon)
  refine (H4.out _ (TR.out _ B4.out)).mono ?_
  rintro r w5 ⟨u5, c5, rfl, hl5, hb⟩
  simp only []
  have B5 : Hid (Below w0.heap.size w0 w5) := Lib.hid (B4.out.trans (hb.mono B4.out.size))
  have L2 := Lib.hid (L2.out.below hb)
  have L3 := Lib.hid (L3.out.below hb)
  have L4 := Lib.hid (L4.out.below hb)
  have L5 := Lib.hid hl5
  clear hb hl5 x0 x1 x2
  repeat (first | go_skip | go_guarded | go_step | go_upon)
  refine (CS.out _ _ _ _ _ L4.out L5.out).mono ?_
  rintro r w6 ⟨rfl, hb⟩
  simp only []
  have B6 : Hid (Below w0.heap.size w0 w6) := Lib.hid (B5.out.trans (hb.mono B5.out.size))
  have L2 := Lib.hid (L2.out.below hb)
  have L3 := Lib.hid (L3.out.below hb)
  clear hb
  repeat (first | go_skip | go_guarded | go_step | go_upon)
  go_loopw [83] (fun s83 wr => ∃ k : Nat, s83 = .int .i64 k ∧ k ≤ n ∧ Below w6.heap.size w6 wr) (fun s83 _ => n - (Go.RowKit.intOf s83).toNat)
  case atStart => exact ⟨0, rfl, Nat.zero_le _, Below.refl _ _⟩
  case round =>
    obtain ⟨k, rfl, hk, hbl⟩ := hrel
    have HW := Lib.hid hbl
    have M2 := Lib.hid (L2.out.below hbl)
    have M3 := Lib.hid (L3.out.below hbl)
    clear hbl
    by_cases hlt : k < n
    · have hkz : (k : Int) < n := by omega
      have hlen : 0 < L.length := by rw [HN.out]; omega
      obtain ⟨g2, rfl, hg2, hc2⟩ := M2.out hlen
      obtain ⟨g3, rfl, hg3, hc3⟩ := M3.out (by rw [List.length_map]; exact hlen)
      obtain ⟨x, hx⟩ : ∃ x, L[k]? = some x := ⟨L[k]'(by rw [HN.out]; exact hlt), List.getElem?_eq_getElem _⟩
      obtain ⟨a0, a1⟩ := hc2 k x hx
      obtain ⟨b0, b1⟩ := hc3 k (swapI x) (by rw [List.getElem?_map, hx]; rfl)
      obtain ⟨p, v⟩ := x
      have hE := fun q : Int => fun W => eq_it (p, q) (p, q) W
      simp only [decide_true] at hE
      unfold swapI at b0 b1
      simp only at a0 a1 b0 b1
      obtain ⟨S, hS⟩ : ∃ S, txt p = .string S := ⟨_, rfl⟩
      rw [hS] at a0 b0
      have hEq : ∀ (q : Int) W, (Op.equalIn 10000 34 (.agg #[.string S, .int .i64 q]) (.agg #[.string S, .int .i64 q])).run Tryd.prog W = .ok true W := fun q W => by
        have := hE q W
        simp only [hS] at this
        exact this
      clear hc2 hc3 hx hE hS hlen
      by_cases h2 : v = 2
      · subst h2
        rw [if_pos rfl] at b1
        have he := hEq 3
        clear hEq
        repeat (first | go_skip | go_guarded | go_step | go_upon)
        go_quiet (fail)
        rename_i nq
        have W7 : Hid (Below w6.heap.size w6 (wr.drewN nq)) := Lib.hid ⟨HW.out.os, HW.out.tape, HW.out.output, HW.out.size, HW.out.block⟩
        clear a0 a1 b0 b1 he
        generalize wr.drewN nq = w7 at W7 ⊢
        repeat (first | go_skip | go_guarded | go_step | go_upon)
        exact ⟨⟨k + 1, by go_num, by omega, W7.out⟩, by simp [Go.RowKit.intOf]; omega⟩
      · by_cases h3 : v = 3
        · subst h3
          rw [if_neg (by decide), if_pos rfl] at b1
          have he := hEq 2
          clear hEq
          repeat (first | go_skip | go_guarded | go_step | go_upon)
          go_quiet (fail)
          rename_i nq
          have W7 : Hid (Below w6.heap.size w6 (wr.drewN nq)) := Lib.hid ⟨HW.out.os, HW.out.tape, HW.out.output, HW.out.size, HW.out.block⟩
          clear a0 a1 b0 b1 he
          generalize wr.drewN nq = w7 at W7 ⊢
          repeat (first | go_skip | go_guarded | go_step | go_upon)
          exact ⟨⟨k + 1, by go_num, by omega, W7.out⟩, by simp [Go.RowKit.intOf]; omega⟩
        · rw [if_neg h2, if_neg h3] at b1
          have he := hEq v
          have z2 : (v == 2) = false := by simpa using h2
          have z3 : (v == 3) = false := by simpa using h3
          clear hEq h2 h3
          repeat (first | go_skip | go_guarded | go_step | go_upon)
          go_quiet (fail)
          rename_i nq
          have W7 : Hid (Below w6.heap.size w6 (wr.drewN nq)) := Lib.hid ⟨HW.out.os, HW.out.tape, HW.out.output, HW.out.size, HW.out.block⟩
          clear a0 a1 b0 b1 he
          generalize wr.drewN nq = w7 at W7 ⊢
          repeat (first | go_skip | go_guarded | go_step | go_upon)
          exact ⟨⟨k + 1, by go_num, by omega, W7.out⟩, by simp [Go.RowKit.intOf]; omega⟩
    · obtain rfl : k = n := by omega
      repeat (first | go_skip | go_guarded | go_step | go_upon)
      go_ret
      exact ⟨rfl, TR.out _ (B6.out.trans (HW.out.mono B6.out.size))⟩
end RC
end Go.Proofs.YtechekdiadpmoaaDoor
