/- Layer 16: which calls may send, in memory. -/
import Derived.Test.YtdkfoakmjeealaaQMxPiece
set_option linter.all false
set_option maxRecDepth 100000
set_option maxHeartbeats 25600000
namespace Go.Proofs.Ytdkfoakmjeealaa
open Go.RowKit Go.Lib Go.BigFrame
namespace MX
open OM FP

def natV (n : Nat) : Value := .int .i64 (n : Nat)
theorem infoI : (Try.prog.info? 3).map (fun i => (i.zero, i.size, i.bytes)) = some (some (.int .i64 0), 1, 8) := by kernel_rfl
set_option maxRecDepth 100000 in
set_option maxHeartbeats 6400000 in
theorem ready_any (b : Nat) (W S : Int) (cs : List Cl) (v : Value) (w : World) (h : OutA b W S cs v w) (hok : ∀ c ∈ cs, c.Ok) (hW : 1 ≤ W) (hW2 : W ≤ 9223372036854775807) (h64 : cs.length ≤ 64) :
    Calls Try.prog 29 #[ptr b] w fun r w' => ∃ u, r = .returned u ∧ w'.ownsRow w.heap.size 3 1 u (readyTo W cs cs.length).length ((readyTo W cs cs.length).map natV) ∧ Below w.heap.size w w' := by
  obtain ⟨i0, hi, hz0, hz1, hz2⟩ := info_parts infoI
  obtain ⟨ao, k, rfl, -⟩ := owns_view h.own
  have hnm := owns_len h.own
  obtain ⟨n, hn⟩ : ∃ n, cs.length = n := ⟨_, rfl⟩
  have HC := Lib.hid hn
  have H := Lib.hid h
  have HOk := Lib.hid hok
  have c0 := (row_cell (j := 0) h.row).trans rfl
  have hbl := (Array.getElem?_eq_some_iff.1 h.row).1
  rw [hn] at c0 hnm h64 ⊢
  unfold maxLen at hnm
  clear h hn hok
  go_enter Try.func29, Try.ntmps29
  repeat (first | go_skip | go_guarded | go_step | go_upon)
  go_loopw [3, 4, 5, 12] (fun s3 _ _ s12 wr => ∃ j : Nat, s12 = .int .i64 j ∧ j ≤ n ∧ wr.ownsRow w.heap.size 3 1 s3 (readyTo W cs j).length ((readyTo W cs j).map natV) ∧ Below w.heap.size w wr) (fun _ _ _ s12 _ => n - (Go.RowKit.intOf s12).toNat)
  case atStart => exact ⟨0, rfl, Nat.zero_le _, World.ownsRow_nil _ _ _ _, Below.refl _ _⟩
  case round =>
    obtain ⟨j, rfl, hj, ho, hb⟩ := hrel
    have HB := Lib.hid hb
    have HO := Lib.hid ho
    have hbs := hb.size
    obtain ⟨a3, k3, rfl, -⟩ := owns_view ho
    by_cases hlt : j < n
    · have hjz : (j : Int) < n := by omega
      obtain ⟨c, hc⟩ : ∃ c, cs[j]? = some c := ⟨cs[j]'(by rw [HC.out]; exact hlt), List.getElem?_eq_getElem _⟩
      have Hr := H.out.below hb
      obtain ⟨g, k', cur, e, hr, -, -, -, q0, q1, -, q3⟩ := Hr.at hc
      injection e with e1 _ e3
      subst e1 e3
      have hcm := HOk.out c (List.mem_of_getElem? hc)
      have c0 := (row_cell (j := 0) Hr.row).trans rfl
      have cW := (row_cell (j := 1) Hr.row).trans rfl
      rw [HC.out] at c0
      have DA := Lib.hid (reg_of (w := wr) (fun W1 hW1 => (waits_any g (j * 4) c.ended W1 ((hW1.cell (p := ⟨g, j * 4 + 1, none⟩) (Array.getElem?_eq_some_iff.1 hr).1).trans ((row_cell hr).trans q1))).mono (fun r w' h => ⟨h.1, h.2 ▸ Below.refl _ _⟩)))
      have DW := Lib.hid (reg_of (w := wr) (fun W1 hW1 => way_any g (j * 4) c.sent c.acked W1 ((hW1.cell (p := ⟨g, j * 4, none⟩) (Array.getElem?_eq_some_iff.1 hr).1).trans ((row_cell hr).trans q0)) ((hW1.cell (p := ⟨g, j * 4 + 3, none⟩) (Array.getElem?_eq_some_iff.1 hr).1).trans ((row_cell hr).trans q3)) hcm.a (by have := hcm.s; have := hcm.t; omega)))
      have hS := ready_succ W cs j
      have hm : mayAt W cs j = (!c.ended && decide ((c.way : Int) < W)) := by unfold mayAt; rw [hc]; rfl
      unfold Cl.way at hm
      rw [hm] at hS
      have hwb : c.sent - c.acked ≤ 65536 := by have := hcm.s; have := hcm.t; omega
      obtain ⟨y, hy⟩ : ∃ y, c.sent - c.acked = y := ⟨_, rfl⟩
      rw [hy] at DW hS hwb
      obtain ⟨e, he⟩ : ∃ e, c.ended = e := ⟨_, rfl⟩
      rw [he] at DA hS
      clear hc Hr hr q0 q1 q3 hcm hm hy he ho hb
      have HLe := ready_len W cs j
      obtain ⟨R, hR⟩ : ∃ R, readyTo W cs j = R := ⟨_, rfl⟩
      rw [hR] at HO HLe hS ⊢
      obtain ⟨z, hz⟩ : ∃ z, R.length = z := ⟨_, rfl⟩
      rw [hz] at HO HLe ⊢
      have HS := Lib.hid hS
      have HR := Lib.hid hR
      have HZ := Lib.hid hz
      clear hS hR hz
      repeat (first | go_skip | go_guarded | go_step | go_upon)
      cases e with
      | true =>
        simp only [Bool.not_true] at DA
        have rW := cell_regrown cW
        with_reducible refine wp_region_quiet_below (by kernel_rfl) (by kernel_rfl) ?_
        repeat (go_big_quiet_step (first | (go_at_call 33; exact DA.out _ _) | (go_at_call 32; exact DW.out _ _)))
        refine wpQuiet_nil ?_
        intro _ hw'
        obtain ⟨⟨dq, osq⟩, hw''⟩ := hw'
        subst hw''
        have W5 : Hid (Below wr.heap.size wr (Go.Sort.grow (redrawn wr dq) osq)) := Lib.hid (below_regrown wr dq osq)
        generalize Go.Sort.grow (redrawn wr dq) osq = w5 at W5 ⊢
        have B5 := Lib.hid (Below.trans HB.out (W5.out.mono HB.out.size))
        have HO5 := Lib.hid (owns_below HO.out W5.out)
        clear rW
        repeat (first | go_skip | go_guarded | go_step | go_upon)
        refine ⟨⟨j + 1, by go_num, by omega, ?_, B5.out⟩, by simp [Go.RowKit.intOf]; omega⟩
        have hS := HS.out
        simp only [Bool.not_true, Bool.not_false, Bool.false_and, Bool.true_and, decide_false, Bool.false_eq_true, if_false, List.append_nil] at hS
        rw [hS, HZ.out]
        exact HO5.out
      | false =>
        simp only [Bool.not_false] at DA
        by_cases hy : (y : Int) < W
        · have rW := cell_regrown cW
          with_reducible refine wp_region_quiet_below (by kernel_rfl) (by kernel_rfl) ?_
          repeat (go_big_quiet_step (first | (go_at_call 33; exact DA.out _ _) | (go_at_call 32; exact DW.out _ _)))
          refine wpQuiet_nil ?_
          intro _ hw'
          obtain ⟨⟨dq, osq⟩, hw''⟩ := hw'
          subst hw''
          have W5 : Hid (Below wr.heap.size wr (Go.Sort.grow (redrawn wr dq) osq)) := Lib.hid (below_regrown wr dq osq)
          generalize Go.Sort.grow (redrawn wr dq) osq = w5 at W5 ⊢
          have B5 := Lib.hid (Below.trans HB.out (W5.out.mono HB.out.size))
          have HO5 := Lib.hid (owns_below HO.out W5.out)
          clear rW
          have HO6 := Lib.hid (HO5.out.alloc (.cells #[.int .i64 (j : Nat)] 3))
          have HNew := Lib.hid (OM.one_new w5 (.int .i64 (j : Nat)) 3)
          have hs5 := B5.out.size
          repeat (first
            | (at_builtin; refine wpList_append_own _ rfl _ _ 43 rfl w.heap.size 3 i0 (.int .i64 0) 1 8 Try.underlying43 hi hz0 hz1 hz2 rfl (by decide) _ _ _ rfl HO6.out ⟨w5.heap.size, 0, none⟩ 1 1 [.int .i64 (j : Nat)] rfl rfl HNew.out (fun x hx => by simp at hx; subst hx; rfl) (by unfold maxLen; omega) (by omega) (by simp; omega) ?_; intro v' w6 hown' hgrow5 hnil5; have HO7 := Lib.hid hown'; have HB7 := Lib.hid ((B5.out.alloc hs5 _).grown hgrow5 (by simp; omega) (fun j hj => (HO6.out.lt j hj).1)); clear hown' hgrow5 hnil5)
            | go_skip | go_guarded | go_step | go_upon)
          refine ⟨⟨j + 1, by go_num, by omega, ?_, HB7.out⟩, by simp [Go.RowKit.intOf]; omega⟩
          have hS := HS.out
          simp only [Bool.not_false, Bool.true_and, decide_eq_true hy, if_true] at hS
          rw [hS, List.length_append, List.length_singleton, List.map_append, List.map_singleton, HZ.out]
          exact HO7.out
        · have rW := cell_regrown cW
          with_reducible refine wp_region_quiet_below (by kernel_rfl) (by kernel_rfl) ?_
          repeat (go_big_quiet_step (first | (go_at_call 33; exact DA.out _ _) | (go_at_call 32; exact DW.out _ _)))
          refine wpQuiet_nil ?_
          intro _ hw'
          obtain ⟨⟨dq, osq⟩, hw''⟩ := hw'
          subst hw''
          have W5 : Hid (Below wr.heap.size wr (Go.Sort.grow (redrawn wr dq) osq)) := Lib.hid (below_regrown wr dq osq)
          generalize Go.Sort.grow (redrawn wr dq) osq = w5 at W5 ⊢
          have B5 := Lib.hid (Below.trans HB.out (W5.out.mono HB.out.size))
          have HO5 := Lib.hid (owns_below HO.out W5.out)
          clear rW
          repeat (first | go_skip | go_guarded | go_step | go_upon)
          refine ⟨⟨j + 1, by go_num, by omega, ?_, B5.out⟩, by simp [Go.RowKit.intOf]; omega⟩
          have hS := HS.out
          simp only [Bool.not_false, Bool.true_and, decide_eq_false hy, Bool.false_eq_true, if_false, List.append_nil] at hS
          rw [hS, HZ.out]
          exact HO5.out
    · have hjz : ¬ (j : Int) < n := by omega
      obtain rfl : j = n := by omega
      repeat (first | go_skip | go_guarded | go_step | go_upon)
      go_ret
      exact ⟨_, rfl, HO.out, HB.out⟩
end MX
end Go.Proofs.Ytdkfoakmjeealaa
