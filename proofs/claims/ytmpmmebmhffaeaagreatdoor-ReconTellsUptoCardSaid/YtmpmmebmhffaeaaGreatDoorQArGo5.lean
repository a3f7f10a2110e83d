/- Layer 6: the contract of the program's Check. -/
import Derived.Test.YtmpmmebmhffaeaaGreatDoorQArGo4
set_option linter.all false
set_option maxRecDepth 100000
set_option maxHeartbeats 25600000
namespace Go.Proofs.YtmpmmebmhffaeaaGreatDoor
open Go.RowKit Go.Lib Go.BigFrame
namespace TG
open OM TP TM

def checkG (ts : List Nd) : Nat := if treeB ts = true then 0 else 60
theorem check_yes {ts : List Nd} (h : treeB ts = true) : checkG ts = 0 := if_pos h
theorem check_no {ts : List Nd} (h : treeB ts = false) : checkG ts = 60 := if_neg (by rw [h]; simp)
theorem box4 (w : World) (a b c d : Value) (t : TypeId) :
    (w.alloc (.cells #[a, b, c, d] t)).cell? ⟨w.heap.size, 0, none⟩ = some a ∧ (w.alloc (.cells #[a, b, c, d] t)).cell? ⟨w.heap.size, 1, none⟩ = some b ∧ (w.alloc (.cells #[a, b, c, d] t)).cell? ⟨w.heap.size, 2, none⟩ = some c ∧ (w.alloc (.cells #[a, b, c, d] t)).cell? ⟨w.heap.size, 3, none⟩ = some d := by
  have h := heap_alloc_new w (.cells #[a, b, c, d] t)
  exact ⟨by rw [cell_of_row _ _ 0 _ _ _ h]; rfl, by rw [cell_of_row _ _ 1 _ _ _ h]; rfl, by rw [cell_of_row _ _ 2 _ _ _ h]; rfl, by rw [cell_of_row _ _ 3 _ _ _ h]; rfl⟩
set_option maxRecDepth 100000 in
set_option maxHeartbeats 6400000 in
theorem check_any (ao : Option Addr) (cap : Nat) (ts : List Nd) (w : World) (he : NF.Env w) (h : LayN w ao ts) (hs : SmallG ts) (hl : ts.length ≤ maxLen) (hcap : ts.length ≤ cap) :
    Calls Tryz.prog 20 #[.slice ao ts.length cap] w fun r w' => r = .returned (.int .i64 (checkG ts : Nat)) ∧ Below w.heap.size w w' := by
  obtain ⟨n, hn⟩ : ∃ n, ts.length = n := ⟨_, rfl⟩
  have HN := Lib.hid hn
  have HL := Lib.hid h
  have HSm := Lib.hid hs
  have HE := Lib.hid he
  unfold maxLen at hl
  rw [hn] at hl hcap ⊢
  have hnz : (n : Int) ≤ 9223372036854775807 := by omega
  by_cases h0 : n ≤ 1000
  · have h0z : ¬ (1000 : Int) < n := by omega
    clear h hn hl hs he
    go_enter Tryz.func20, Tryz.ntmps20
    repeat (first | go_skip | go_guarded | go_step | go_upon)
    go_loopw [10] (fun s10 wr => ∃ k : Nat, s10 = .int .i64 k ∧ k ≤ n ∧ treeB (ts.take k) = true ∧ Below w.heap.size w wr) (fun s10 _ => n - (Go.RowKit.intOf s10).toNat)
    case atStart => exact ⟨0, rfl, Nat.zero_le _, rfl, Below.refl _ _⟩
    case round =>
      obtain ⟨k, rfl, hk, ht, hb⟩ := hrel
      have HT := Lib.hid ht
      have HB := Lib.hid hb
      have hbs := hb.size
      have HLr := Lib.hid (HL.out.below hb)
      have HEr := Lib.hid (HE.out.below hb)
      clear ht hb
      by_cases hlt : k < n
      · have hkz : (k : Int) < n := by omega
        obtain ⟨g, o, rfl, hg, hcell⟩ := HLr.out (by rw [HN.out]; omega)
        obtain ⟨x, hx⟩ : ∃ x, ts[k]? = some x := ⟨ts[k]'(by rw [HN.out]; exact hlt), List.getElem?_eq_getElem _⟩
        have hmem := List.mem_of_getElem? hx
        obtain ⟨hs1, hs2⟩ := HSm.out x hmem
        obtain ⟨c0, c1, c2, c3⟩ := hcell k x hx
        obtain ⟨X, hX, hXd⟩ := txt_of x.path
        obtain ⟨D, hD, _⟩ := txt_of x.data
        obtain ⟨kx, hkx⟩ : ∃ kx, x.kind = kx := ⟨_, rfl⟩
        obtain ⟨mx, hmx⟩ : ∃ mx, x.mode = mx := ⟨_, rfl⟩
        rw [hX] at c0
        rw [hkx] at c1
        rw [hD] at c2
        rw [hmx] at c3
        obtain ⟨wa, hwa⟩ : ∃ wa, wr.alloc (.cells #[.string X, .int .i64 kx, .string D, .int .i64 mx] 40) = wa := ⟨_, rfl⟩
        have hba : Below wr.heap.size wr wa := by rw [← hwa]; exact (Below.refl _ _).alloc (Nat.le_refl _) _
        obtain ⟨a0, a1, a2, a3⟩ := box4 wr (.string X) (.int .i64 kx) (.string D) (.int .i64 mx) 40
        rw [hwa] at a0 a1 a2 a3
        have HBa := Lib.hid (Below.trans HB.out (hba.mono hbs))
        have HEa := Lib.hid (HEr.out.below hba)
        have HLa := Lib.hid (HLr.out.below hba)
        obtain ⟨b1, hb1⟩ : ∃ b, NP.pathL x.path = b := ⟨_, rfl⟩
        obtain ⟨b2, hb2⟩ : ∃ b, rightB x = b := ⟨_, rfl⟩
        obtain ⟨b3, hb3⟩ : ∃ b, goesB (ts.take k) x.path = b := ⟨_, rfl⟩
        have HStep : Hid (treeB (ts.take (k + 1)) = (b1 && b2 && b3)) := Lib.hid (by rw [tree_step hx HT.out (by rw [HN.out]; exact h0), hb1, hb2, hb3])
        have D1 := Lib.hid (reg_g (w := wa) (f := 35) (args := #[.string X]) (v := .bool b1) (fun W hW => by
          have := path_txt X x.path W (HEa.out.below hW) hXd hs1
          rw [hb1] at this
          exact this))
        have D2 := Lib.hid (reg_g (w := wa) (f := 36) (args := #[.agg #[.string X, .int .i64 kx, .string D, .int .i64 mx]]) (v := .bool b2) (fun W hW => by
          have := right_any x W hs2
          unfold ndVal at this
          rw [hX, hD, hkx, hmx, hb2] at this
          exact this))
        have D3 := Lib.hid (reg_g (w := wa) (f := 37) (args := #[.slice (some ⟨g, o, none⟩) k cap, .string X]) (v := .bool b3) (fun W hW => by
          have hkl : (ts.take k).length = k := by rw [List.length_take, HN.out]; omega
          have := goes_any (some ⟨g, o, none⟩) cap (ts.take k) x.path W (HEa.out.below hW) ((HLa.out.below hW).take k) ((tree_iff _).1 HT.out).sorted (fun m hm => HSm.out m (List.mem_of_mem_take hm)) (by rw [hkl]; omega) hs1
          rw [hkl, hX, hb3] at this
          exact this))
        have hsl := sl_to ndsl_node (some ⟨g, o, none⟩) n k cap k rfl (by omega)
        have fa0 := cell_regrown a0
        have fa1 := cell_regrown a1
        have fa2 := cell_regrown a2
        have fa3 := cell_regrown a3
        clear hcell hX hXd hD hkx hmx hb1 hb2 hb3 hx hmem hs1 hs2 hlt
        repeat (first | go_skip | go_guarded | go_step | go_upon)
        cases b1 with
        | false =>
          have HF : Hid (checkG ts = 60) := Lib.hid (check_no (tree_stop (k := k + 1) (by rw [HStep.out]; rfl)))
          with_reducible refine wp_region_quiet_below (by kernel_rfl) (by kernel_rfl) ?_
          repeat (go_big_quiet_step (first | (go_at_call 35; exact D1.out _ _) | (go_at_call 36; exact D2.out _ _) | (go_at_call 37; exact D3.out _ _)))
          refine wpQuiet_nil ?_
          intro _ hw'
          obtain ⟨⟨dq, osq⟩, hw''⟩ := hw'
          subst hw''
          have W5 : Hid (Below wa.heap.size wa (Go.Sort.grow (redrawn wa dq) osq)) := Lib.hid (below_regrown wa dq osq)
          clear fa0 fa1 fa2 fa3 a0 a1 a2 a3 hwa
          generalize Go.Sort.grow (redrawn wa dq) osq = w5 at W5 ⊢
          repeat (first | go_skip | go_guarded | go_step | go_upon)
          go_ret
          exact ⟨by rw [HF.out]; rfl, Below.trans HBa.out (W5.out.mono HBa.out.size)⟩
        | true =>
          cases b2 with
          | false =>
            have HF : Hid (checkG ts = 60) := Lib.hid (check_no (tree_stop (k := k + 1) (by rw [HStep.out]; rfl)))
            with_reducible refine wp_region_quiet_below (by kernel_rfl) (by kernel_rfl) ?_
            repeat (go_big_quiet_step (first | (go_at_call 35; exact D1.out _ _) | (go_at_call 36; exact D2.out _ _) | (go_at_call 37; exact D3.out _ _)))
            refine wpQuiet_nil ?_
            intro _ hw'
            obtain ⟨⟨dq, osq⟩, hw''⟩ := hw'
            subst hw''
            have W5 : Hid (Below wa.heap.size wa (Go.Sort.grow (redrawn wa dq) osq)) := Lib.hid (below_regrown wa dq osq)
            clear fa0 fa1 fa2 fa3 a0 a1 a2 a3 hwa
            generalize Go.Sort.grow (redrawn wa dq) osq = w5 at W5 ⊢
            repeat (first | go_skip | go_guarded | go_step | go_upon)
            go_ret
            exact ⟨by rw [HF.out]; rfl, Below.trans HBa.out (W5.out.mono HBa.out.size)⟩
          | true =>
            cases b3 with
            | false =>
              have HF : Hid (checkG ts = 60) := Lib.hid (check_no (tree_stop (k := k + 1) (by rw [HStep.out]; rfl)))
              with_reducible refine wp_region_quiet_below (by kernel_rfl) (by kernel_rfl) ?_
              repeat (go_big_quiet_step (first | (go_at_call 35; exact D1.out _ _) | (go_at_call 36; exact D2.out _ _) | (go_at_call 37; exact D3.out _ _)))
              refine wpQuiet_nil ?_
              intro _ hw'
              obtain ⟨⟨dq, osq⟩, hw''⟩ := hw'
              subst hw''
              have W5 : Hid (Below wa.heap.size wa (Go.Sort.grow (redrawn wa dq) osq)) := Lib.hid (below_regrown wa dq osq)
              clear fa0 fa1 fa2 fa3 a0 a1 a2 a3 hwa
              generalize Go.Sort.grow (redrawn wa dq) osq = w5 at W5 ⊢
              repeat (first | go_skip | go_guarded | go_step | go_upon)
              go_ret
              exact ⟨by rw [HF.out]; rfl, Below.trans HBa.out (W5.out.mono HBa.out.size)⟩
            | true =>
              with_reducible refine wp_region_quiet_below (by kernel_rfl) (by kernel_rfl) ?_
              repeat (go_big_quiet_step (first | (go_at_call 35; exact D1.out _ _) | (go_at_call 36; exact D2.out _ _) | (go_at_call 37; exact D3.out _ _)))
              refine wpQuiet_nil ?_
              intro _ hw'
              obtain ⟨⟨dq, osq⟩, hw''⟩ := hw'
              subst hw''
              have W5 : Hid (Below wa.heap.size wa (Go.Sort.grow (redrawn wa dq) osq)) := Lib.hid (below_regrown wa dq osq)
              clear fa0 fa1 fa2 fa3 a0 a1 a2 a3 hwa
              generalize Go.Sort.grow (redrawn wa dq) osq = w5 at W5 ⊢
              repeat (first | go_skip | go_guarded | go_step | go_upon)
              exact ⟨⟨k + 1, by go_num, by omega, HStep.out, Below.trans HBa.out (W5.out.mono HBa.out.size)⟩, by simp [Go.RowKit.intOf]; omega⟩
      · have hkz : ¬ (k : Int) < n := by omega
        have HF : Hid (checkG ts = 0) := Lib.hid (check_yes (by
          have := HT.out
          rw [List.take_of_length_le (by rw [HN.out]; omega)] at this
          exact this))
        clear hlt
        repeat (first | go_skip | go_guarded | go_step | go_upon)
        go_ret
        exact ⟨by rw [HF.out]; rfl, HB.out⟩
  · have h0z : (1000 : Int) < n := by omega
    have HB : Hid (checkG ts = 60) := Lib.hid (check_no (by unfold treeB; rw [hn, decide_eq_false h0]; rfl))
    clear h hn hl hs h0 he
    go_enter Tryz.func20, Tryz.ntmps20
    repeat (first | go_skip | go_guarded | go_step | go_upon)
    go_ret
    exact ⟨by rw [HB.out]; rfl, Below.refl _ _⟩
end TG
end Go.Proofs.YtmpmmebmhffaeaaGreatDoor
