/- Layer 6: the contracts of rightNode, Check, Right for lists of texts of any length. -/
import Derived.Test.YtmpmmebmhffaeaaGreatDoorQArFrm
import Derived.Test.YtmpmmebmhffaeaaGreatDoorQArSame
set_option linter.all false
set_option maxRecDepth 100000
set_option maxHeartbeats 25600000
namespace Go.Proofs.YtmpmmebmhffaeaaGreatDoor
open Go.RowKit Go.Lib Go.BigFrame
namespace TW
open OM TP TM TR TG

def LongG (ts : List Nd) : Prop := ∀ n ∈ ts, n.path.length ≤ maxLen
theorem small_right {n : Nd} (h : rightB n = true) : n.data.length ≤ 1048576 := by
  unfold rightB at h
  split at h
  · simp only [Bool.and_eq_true, decide_eq_true_eq] at h; omega
  · split at h
    · simp only [Bool.and_eq_true, decide_eq_true_eq] at h; rw [h.1]; simp
    · split at h
      · simp only [Bool.and_eq_true, decide_eq_true_eq] at h; omega
      · cases h
theorem small_path {q : List UInt8} (h : NP.pathL q = true) : q.length ≤ 1048576 := by have := ((path_iff q).1 h).1; omega
theorem small_tree {t : List Nd} (h : Tree t) : SmallG t := fun n hn => ⟨small_path (h.path n hn), small_right (h.right n hn)⟩
theorem small_val {v : List Nd} (h : Val v) : SmallG v := fun n hn => ⟨by
  rcases h.path n hn with e | e
  · rw [e]; simp
  · exact small_path e, small_right (h.right n hn)⟩
theorem path_wide (S : ByteArray) (l : List UInt8) (w : World) (he : NF.Env w) (hS : S.data.toList = l) (h : l.length ≤ maxLen) :
    Calls Tryz.prog 35 #[.string S] w fun e w' => e = .returned (.bool (NP.pathL l)) ∧ Below w.heap.size w w' := by
  subst hS
  exact NF.path_any S w he (by rw [Lib.size_eq]; exact h)
set_option maxRecDepth 100000 in
set_option maxHeartbeats 3200000 in
theorem right_wide (n : Nd) (w : World) : Calls Tryz.prog 36 #[ndVal n] w fun r w' => r = .returned (.bool (rightB n)) ∧ Below w.heap.size w w' := by
  obtain ⟨p, k, d, m⟩ := n
  unfold ndVal txt
  simp only
  obtain ⟨S, hS⟩ : ∃ S : ByteArray, ⟨d.toArray⟩ = S := ⟨_, rfl⟩
  have hSd : S.data.toList = d := by rw [← hS]
  obtain ⟨dl, hdl⟩ : ∃ dl, d.length = dl := ⟨_, rfl⟩
  have hSz : S.size = dl := by rw [Lib.size_eq, hSd]; exact hdl
  obtain ⟨bc, hbc⟩ : ∃ b, d.contains 0 = b := ⟨_, rfl⟩
  have CC : Hid (∀ W, Calls Tryz.prog 55 #[.string S, .string ⟨#[0]⟩] W fun e w' => e = .returned (.bool bc) ∧ w' = W) := Lib.hid (fun W => by
    have := Tryz.strings_Contains_one S 0 W
    rw [idx_contains, hSd, hbc] at this
    exact this)
  rw [hS]
  have B0 : Hid (Below w.heap.size w (w.alloc (.cells #[.string ⟨p.toArray⟩, .int .i64 k, .string S, .int .i64 m] 40))) := Lib.hid ((Below.refl _ _).alloc (Nat.le_refl _) _)
  by_cases h1 : k = 1
  · have k1 : (k == 1) = true := by simp [h1]
    have HR : Hid (rightB ⟨p, k, d, m⟩ = (decide (dl ≤ 65536) && decide (0 ≤ m) && decide (m ≤ 511))) := Lib.hid (by unfold rightB; simp only; rw [if_pos h1, hdl])
    clear hS hSd hdl h1 hbc
    by_cases a1 : dl ≤ 65536
    · have b1 : (dl : Int) ≤ 65536 := by omega
      have b1d : decide ((dl : Int) ≤ 65536) = true := decide_eq_true b1
      by_cases a2 : 0 ≤ m
      · have b2d : decide (0 ≤ m) = true := decide_eq_true a2
        by_cases a3 : m ≤ 511
        · have HB : Hid (rightB ⟨p, k, d, m⟩ = true) := Lib.hid (by rw [HR.out, decide_eq_true a1, decide_eq_true a2, decide_eq_true a3]; rfl)
          clear a1
          go_enter Tryz.func36, Tryz.ntmps36
          repeat (first | go_skip | go_guarded | go_step | go_upon)
          go_ret
          exact ⟨by rw [HB.out]; simp, B0.out⟩
        · have HB : Hid (rightB ⟨p, k, d, m⟩ = false) := Lib.hid (by rw [HR.out, decide_eq_false a3]; simp)
          clear a1
          go_enter Tryz.func36, Tryz.ntmps36
          repeat (first | go_skip | go_guarded | go_step | go_upon)
          go_ret
          exact ⟨by rw [HB.out]; simp, B0.out⟩
      · have b2d : decide (0 ≤ m) = false := decide_eq_false a2
        have HB : Hid (rightB ⟨p, k, d, m⟩ = false) := Lib.hid (by rw [HR.out, decide_eq_false a2]; simp)
        clear a1
        go_enter Tryz.func36, Tryz.ntmps36
        repeat (first | go_skip | go_guarded | go_step | go_upon)
        go_ret
        exact ⟨by rw [HB.out]; rfl, B0.out⟩
    · have b1 : ¬ (dl : Int) ≤ 65536 := by omega
      have b1d : decide ((dl : Int) ≤ 65536) = false := decide_eq_false b1
      have HB : Hid (rightB ⟨p, k, d, m⟩ = false) := Lib.hid (by rw [HR.out, decide_eq_false a1]; simp)
      clear a1
      go_enter Tryz.func36, Tryz.ntmps36
      repeat (first | go_skip | go_guarded | go_step | go_upon)
      go_ret
      exact ⟨by rw [HB.out]; rfl, B0.out⟩
  · have k1 : (k == 1) = false := by simp [h1]
    by_cases h2 : k = 2
    · have k2 : (k == 2) = true := by simp [h2]
      have HR : Hid (rightB ⟨p, k, d, m⟩ = (decide (d = []) && decide (m = 0))) := Lib.hid (by unfold rightB; simp only; rw [if_neg h1, if_pos h2])
      clear hdl h1 h2 hSz hbc
      by_cases a1 : d = []
      · have b1 : S.toList.isEmpty = true := by rw [Lib.toList_data, hSd, a1]; rfl
        obtain ⟨b2, hb2⟩ : ∃ b2, (m == 0) = b2 := ⟨_, rfl⟩
        have HB : Hid (rightB ⟨p, k, d, m⟩ = b2) := Lib.hid (by rw [HR.out, decide_eq_true a1, ← hb2, Bool.true_and, Bool.eq_iff_iff]; simp)
        clear a1 hS hSd
        go_enter Tryz.func36, Tryz.ntmps36
        repeat (first | go_skip | go_guarded | go_step | go_upon)
        go_ret
        exact ⟨by rw [HB.out]; rfl, B0.out⟩
      · have b1 : S.toList.isEmpty = false := by rw [Lib.toList_data, hSd]; simp [a1]
        have HB : Hid (rightB ⟨p, k, d, m⟩ = false) := Lib.hid (by rw [HR.out, decide_eq_false a1]; simp)
        clear a1 hS hSd
        go_enter Tryz.func36, Tryz.ntmps36
        repeat (first | go_skip | go_guarded | go_step | go_upon)
        go_ret
        exact ⟨by rw [HB.out]; rfl, B0.out⟩
    · have k2 : (k == 2) = false := by simp [h2]
      by_cases h3 : k = 3
      · have k3 : (k == 3) = true := by simp [h3]
        have HR : Hid (rightB ⟨p, k, d, m⟩ = (!bc && decide (1 ≤ dl) && decide (dl ≤ 400) && decide (m = 0))) := Lib.hid (by unfold rightB; simp only; rw [if_neg h1, if_neg h2, if_pos h3, hdl, hbc])
        have hemp : S.toList.isEmpty = decide (dl = 0) := by rw [Lib.toList_data, hSd, ← hdl, Bool.eq_iff_iff]; simp
        clear hS hSd hdl h1 h2 h3 hbc
        by_cases a1 : 1 ≤ dl
        · have b1 : S.toList.isEmpty = false := by rw [hemp, decide_eq_false (by omega)]
          by_cases a2 : dl ≤ 400
          · have b2 : (dl : Int) ≤ 400 := by omega
            have b2d : decide ((dl : Int) ≤ 400) = true := decide_eq_true b2
            cases bc with
            | true =>
              have HB : Hid (rightB ⟨p, k, d, m⟩ = false) := Lib.hid (by rw [HR.out]; simp)
              clear a1 a2 hemp HR
              go_enter Tryz.func36, Tryz.ntmps36
              repeat (first | (go_at_call 55; refine (CC.out _).mono ?_; rintro r w1 ⟨rfl, rfl⟩; simp only []) | go_skip | go_guarded | go_step | go_upon)
              go_ret
              exact ⟨by rw [HB.out]; rfl, B0.out⟩
            | false =>
              obtain ⟨b3, hb3⟩ : ∃ b3, (m == 0) = b3 := ⟨_, rfl⟩
              have HB : Hid (rightB ⟨p, k, d, m⟩ = b3) := Lib.hid (by rw [HR.out, decide_eq_true a1, decide_eq_true a2, ← hb3, Bool.eq_iff_iff]; simp)
              clear a1 a2 hemp HR
              go_enter Tryz.func36, Tryz.ntmps36
              repeat (first | (go_at_call 55; refine (CC.out _).mono ?_; rintro r w1 ⟨rfl, rfl⟩; simp only []) | go_skip | go_guarded | go_step | go_upon)
              go_ret
              exact ⟨by rw [HB.out]; rfl, B0.out⟩
          · have b2 : ¬ (dl : Int) ≤ 400 := by omega
            have b2d : decide ((dl : Int) ≤ 400) = false := decide_eq_false b2
            have HB : Hid (rightB ⟨p, k, d, m⟩ = false) := Lib.hid (by rw [HR.out, decide_eq_false a2]; simp)
            clear a1 a2 hemp HR
            go_enter Tryz.func36, Tryz.ntmps36
            repeat (first | go_skip | go_guarded | go_step | go_upon)
            go_ret
            exact ⟨by rw [HB.out]; rfl, B0.out⟩
        · have b1 : S.toList.isEmpty = true := by rw [hemp, decide_eq_true (by omega)]
          have HB : Hid (rightB ⟨p, k, d, m⟩ = false) := Lib.hid (by rw [HR.out, decide_eq_false a1]; simp)
          clear a1 hemp HR
          go_enter Tryz.func36, Tryz.ntmps36
          repeat (first | go_skip | go_guarded | go_step | go_upon)
          go_ret
          exact ⟨by rw [HB.out]; rfl, B0.out⟩
      · have k3 : (k == 3) = false := by simp [h3]
        have HB : Hid (rightB ⟨p, k, d, m⟩ = false) := Lib.hid (by unfold rightB; simp only; rw [if_neg h1, if_neg h2, if_neg h3])
        clear hS hSd hdl h1 h2 h3 hbc
        go_enter Tryz.func36, Tryz.ntmps36
        repeat (first | go_skip | go_guarded | go_step | go_upon)
        go_ret
        exact ⟨by rw [HB.out]; rfl, B0.out⟩
set_option maxRecDepth 100000 in
set_option maxHeartbeats 6400000 in
theorem check_wide (ao : Option Addr) (cap : Nat) (ts : List Nd) (w : World) (he : NF.Env w) (h : LayN w ao ts) (hs : LongG ts) (hl : ts.length ≤ maxLen) (hcap : ts.length ≤ cap) :
    Calls Tryz.prog 20 #[.slice ao ts.length cap] w fun r w' => r = .returned (.int .i64 (checkG ts : Nat)) ∧ Below w.heap.size w w' := by
  obtain ⟨n, hn⟩ : ∃ n, ts.length = n := ⟨_, rfl⟩
  have HN := Lib.hid hn
  have HL := Lib.hid h
  have HSm := Lib.hid hs
  have HE := Lib.hid he
  unfold maxLen at hl
  rw [hn] at hl hcap ⊢
  have hnz : (n : Int) ≤ 9223372036854775807 := by omega
  by_cases h0 : n ≤ 1000
  · have h0z : ¬ (1000 : Int) < n := by omega
    clear h hn hl hs he
    go_enter Tryz.func20, Tryz.ntmps20
    repeat (first | go_skip | go_guarded | go_step | go_upon)
    go_loopw [10] (fun s10 wr => ∃ k : Nat, s10 = .int .i64 k ∧ k ≤ n ∧ treeB (ts.take k) = true ∧ Below w.heap.size w wr) (fun s10 _ => n - (Go.RowKit.intOf s10).toNat)
    case atStart => exact ⟨0, rfl, Nat.zero_le _, rfl, Below.refl _ _⟩
    case round =>
      obtain ⟨k, rfl, hk, ht, hb⟩ := hrel
      have HT := Lib.hid ht
      have HB := Lib.hid hb
      have hbs := hb.size
      have HLr := Lib.hid (HL.out.below hb)
      have HEr := Lib.hid (HE.out.below hb)
      clear ht hb
      by_cases hlt : k < n
      · have hkz : (k : Int) < n := by omega
        obtain ⟨g, o, rfl, hg, hcell⟩ := HLr.out (by rw [HN.out]; omega)
        obtain ⟨x, hx⟩ : ∃ x, ts[k]? = some x := ⟨ts[k]'(by rw [HN.out]; exact hlt), List.getElem?_eq_getElem _⟩
        have hmem := List.mem_of_getElem? hx
        have hs1 := HSm.out x hmem
        obtain ⟨c0, c1, c2, c3⟩ := hcell k x hx
        obtain ⟨X, hX, hXd⟩ := txt_of x.path
        obtain ⟨D, hD, _⟩ := txt_of x.data
        obtain ⟨kx, hkx⟩ : ∃ kx, x.kind = kx := ⟨_, rfl⟩
        obtain ⟨mx, hmx⟩ : ∃ mx, x.mode = mx := ⟨_, rfl⟩
        rw [hX] at c0
        rw [hkx] at c1
        rw [hD] at c2
        rw [hmx] at c3
        obtain ⟨wa, hwa⟩ : ∃ wa, wr.alloc (.cells #[.string X, .int .i64 kx, .string D, .int .i64 mx] 40) = wa := ⟨_, rfl⟩
        have hba : Below wr.heap.size wr wa := by rw [← hwa]; exact (Below.refl _ _).alloc (Nat.le_refl _) _
        obtain ⟨a0, a1, a2, a3⟩ := box4 wr (.string X) (.int .i64 kx) (.string D) (.int .i64 mx) 40
        rw [hwa] at a0 a1 a2 a3
        have HBa := Lib.hid (Below.trans HB.out (hba.mono hbs))
        have HEa := Lib.hid (HEr.out.below hba)
        have HLa := Lib.hid (HLr.out.below hba)
        obtain ⟨b1, hb1⟩ : ∃ b, NP.pathL x.path = b := ⟨_, rfl⟩
        obtain ⟨b2, hb2⟩ : ∃ b, rightB x = b := ⟨_, rfl⟩
        obtain ⟨b3, hb3⟩ : ∃ b, goesB (ts.take k) x.path = b := ⟨_, rfl⟩
        have HStep : Hid (treeB (ts.take (k + 1)) = (b1 && b2 && b3)) := Lib.hid (by rw [tree_step hx HT.out (by rw [HN.out]; exact h0), hb1, hb2, hb3])
        have D1 := Lib.hid (reg_g (w := wa) (f := 35) (args := #[.string X]) (v := .bool b1) (fun W hW => by
          have := path_wide X x.path W (HEa.out.below hW) hXd hs1
          rw [hb1] at this
          exact this))
        have D2 := Lib.hid (reg_g (w := wa) (f := 36) (args := #[.agg #[.string X, .int .i64 kx, .string D, .int .i64 mx]]) (v := .bool b2) (fun W hW => by
          have := right_wide x W
          unfold ndVal at this
          rw [hX, hD, hkx, hmx, hb2] at this
          exact this))
        have D3 := Lib.hid (fun (hbt : b1 = true) => reg_g (w := wa) (f := 37) (args := #[.slice (some ⟨g, o, none⟩) k cap, .string X]) (v := .bool b3) (fun W hW => by
          have hkl : (ts.take k).length = k := by rw [List.length_take, HN.out]; omega
          have := goes_any (some ⟨g, o, none⟩) cap (ts.take k) x.path W (HEa.out.below hW) ((HLa.out.below hW).take k) ((tree_iff _).1 HT.out).sorted (small_tree ((tree_iff _).1 HT.out)) (by rw [hkl]; omega) (small_path (hb1.trans hbt))
          rw [hkl, hX, hb3] at this
          exact this))
        have hsl := sl_to ndsl_node (some ⟨g, o, none⟩) n k cap k rfl (by omega)
        have fa0 := cell_regrown a0
        have fa1 := cell_regrown a1
        have fa2 := cell_regrown a2
        have fa3 := cell_regrown a3
        clear hcell hX hXd hD hkx hmx hb1 hb2 hb3 hx hmem hs1 hlt
        repeat (first | go_skip | go_guarded | go_step | go_upon)
        cases b1 with
        | false =>
          have HF : Hid (checkG ts = 60) := Lib.hid (check_no (tree_stop (k := k + 1) (by rw [HStep.out]; rfl)))
          with_reducible refine wp_region_quiet_below (by kernel_rfl) (by kernel_rfl) ?_
          repeat (go_big_quiet_step (first | (go_at_call 35; exact D1.out _ _) | (go_at_call 36; exact D2.out _ _) | (go_at_call 37; exact D3.out rfl _ _)))
          refine wpQuiet_nil ?_
          intro _ hw'
          obtain ⟨⟨dq, osq⟩, hw''⟩ := hw'
          subst hw''
          have W5 : Hid (Below wa.heap.size wa (Go.Sort.grow (redrawn wa dq) osq)) := Lib.hid (below_regrown wa dq osq)
          clear fa0 fa1 fa2 fa3 a0 a1 a2 a3 hwa
          generalize Go.Sort.grow (redrawn wa dq) osq = w5 at W5 ⊢
          repeat (first | go_skip | go_guarded | go_step | go_upon)
          go_ret
          exact ⟨by rw [HF.out]; rfl, Below.trans HBa.out (W5.out.mono HBa.out.size)⟩
        | true =>
          cases b2 with
          | false =>
            have HF : Hid (checkG ts = 60) := Lib.hid (check_no (tree_stop (k := k + 1) (by rw [HStep.out]; rfl)))
            with_reducible refine wp_region_quiet_below (by kernel_rfl) (by kernel_rfl) ?_
            repeat (go_big_quiet_step (first | (go_at_call 35; exact D1.out _ _) | (go_at_call 36; exact D2.out _ _) | (go_at_call 37; exact D3.out rfl _ _)))
            refine wpQuiet_nil ?_
            intro _ hw'
            obtain ⟨⟨dq, osq⟩, hw''⟩ := hw'
            subst hw''
            have W5 : Hid (Below wa.heap.size wa (Go.Sort.grow (redrawn wa dq) osq)) := Lib.hid (below_regrown wa dq osq)
            clear fa0 fa1 fa2 fa3 a0 a1 a2 a3 hwa
            generalize Go.Sort.grow (redrawn wa dq) osq = w5 at W5 ⊢
            repeat (first | go_skip | go_guarded | go_step | go_upon)
            go_ret
            exact ⟨by rw [HF.out]; rfl, Below.trans HBa.out (W5.out.mono HBa.out.size)⟩
          | true =>
            cases b3 with
            | false =>
              have HF : Hid (checkG ts = 60) := Lib.hid (check_no (tree_stop (k := k + 1) (by rw [HStep.out]; rfl)))
              with_reducible refine wp_region_quiet_below (by kernel_rfl) (by kernel_rfl) ?_
              repeat (go_big_quiet_step (first | (go_at_call 35; exact D1.out _ _) | (go_at_call 36; exact D2.out _ _) | (go_at_call 37; exact D3.out rfl _ _)))
              refine wpQuiet_nil ?_
              intro _ hw'
              obtain ⟨⟨dq, osq⟩, hw''⟩ := hw'
              subst hw''
              have W5 : Hid (Below wa.heap.size wa (Go.Sort.grow (redrawn wa dq) osq)) := Lib.hid (below_regrown wa dq osq)
              clear fa0 fa1 fa2 fa3 a0 a1 a2 a3 hwa
              generalize Go.Sort.grow (redrawn wa dq) osq = w5 at W5 ⊢
              repeat (first | go_skip | go_guarded | go_step | go_upon)
              go_ret
              exact ⟨by rw [HF.out]; rfl, Below.trans HBa.out (W5.out.mono HBa.out.size)⟩
            | true =>
              with_reducible refine wp_region_quiet_below (by kernel_rfl) (by kernel_rfl) ?_
              repeat (go_big_quiet_step (first | (go_at_call 35; exact D1.out _ _) | (go_at_call 36; exact D2.out _ _) | (go_at_call 37; exact D3.out rfl _ _)))
              refine wpQuiet_nil ?_
              intro _ hw'
              obtain ⟨⟨dq, osq⟩, hw''⟩ := hw'
              subst hw''
              have W5 : Hid (Below wa.heap.size wa (Go.Sort.grow (redrawn wa dq) osq)) := Lib.hid (below_regrown wa dq osq)
              clear fa0 fa1 fa2 fa3 a0 a1 a2 a3 hwa
              generalize Go.Sort.grow (redrawn wa dq) osq = w5 at W5 ⊢
              repeat (first | go_skip | go_guarded | go_step | go_upon)
              exact ⟨⟨k + 1, by go_num, by omega, HStep.out, Below.trans HBa.out (W5.out.mono HBa.out.size)⟩, by simp [Go.RowKit.intOf]; omega⟩
      · have hkz : ¬ (k : Int) < n := by omega
        have HF : Hid (checkG ts = 0) := Lib.hid (check_yes (by
          have := HT.out
          rw [List.take_of_length_le (by rw [HN.out]; omega)] at this
          exact this))
        clear hlt
        repeat (first | go_skip | go_guarded | go_step | go_upon)
        go_ret
        exact ⟨by rw [HF.out]; rfl, HB.out⟩
  · have h0z : (1000 : Int) < n := by omega
    have HB : Hid (checkG ts = 60) := Lib.hid (check_no (by unfold treeB; rw [hn, decide_eq_false h0]; rfl))
    clear h hn hl hs h0 he
    go_enter Tryz.func20, Tryz.ntmps20
    repeat (first | go_skip | go_guarded | go_step | go_upon)
    go_ret
    exact ⟨by rw [HB.out]; rfl, Below.refl _ _⟩
/-- A list of nodes as it comes in, its texts of any length. -/
structure Wide (w : World) (ao : Option Addr) (ca : Nat) (ts : List Nd) : Prop where
  lay : LayN w ao ts
  no : ao = none → ca = 0
  cap : ts.length ≤ ca
  long : LongG ts
  max : ts.length ≤ maxLen
theorem Wide.nil (w : World) : Wide w none 0 [] := ⟨LayN.nil _ _, fun _ => rfl, Nat.le_refl _, fun n hn => by simp at hn, by simp⟩
theorem Wide.below {w W : World} {ao : Option Addr} {ca : Nat} {ts : List Nd} (h : Wide w ao ca ts) (hb : Below w.heap.size w W) : Wide W ao ca ts := ⟨h.lay.below hb, h.no, h.cap, h.long, h.max⟩
theorem Wide.check {w : World} {ao : Option Addr} {ca : Nat} {ts : List Nd} (he : NF.Env w) (h : Wide w ao ca ts) :
    Calls Tryz.prog 20 #[.slice ao ts.length ca] w fun r w' => r = .returned (.int .i64 (checkG ts : Nat)) ∧ Below w.heap.size w w' := check_wide ao ca ts w he h.lay h.long h.max h.cap
end TW
open Go.ChangeShapes Go.WideShapes Go.ChangeAt
namespace TF
open OM TP TM TR TG TW

theorem nodes_wide {H : Type} {enc : TypeId × Value → H} {W : World} {spare : Nat → Bool} {held : Bool} {fuel len cap : Nat} {a0 : Option Addr} {x : DataW H × List MemPlace}
    (h : DataW.trod enc Tryz.prog W 0 spare held fuel 22 (Value.slice a0 len cap).cells.toList = some x) :
    ∃ ts : List Nd, ts.length = len ∧ Wide W a0 cap ts := by
  rcases open_fours Tryz.underlying22 Tryz.underlying40 (by kernel_rfl) rfl rfl rfl rfl (by kernel_rfl) (by kernel_rfl) (by kernel_rfl) (by kernel_rfl) h with hcs | ⟨ad, len', cap', n, D, sp, hcs, hl, hm, hx, hcell⟩
  · simp [Value.cells] at hcs
    obtain ⟨rfl, rfl, rfl⟩ := hcs
    exact ⟨[], rfl, Wide.nil W⟩
  · simp [Value.cells] at hcs
    obtain ⟨rfl, rfl, rfl⟩ := hcs
    have hlen : len ≤ maxLen := Nat.le_trans hl hm
    have hch : ∀ i, i < len → ∃ r : Nd, W.cell? (ad.add (i * 4)) = some (txt r.path) ∧ W.cell? (ad.add (i * 4 + 1)) = some (.int .i64 r.kind) ∧ W.cell? (ad.add (i * 4 + 2)) = some (txt r.data) ∧ W.cell? (ad.add (i * 4 + 3)) = some (.int .i64 r.mode) ∧ r.path.length ≤ maxLen := by
      intro i hi
      obtain ⟨v0, v1, v2, v3, y0, y1, y2, y3, e0, e1, e2, e3, hD, t0, t1, t2, t3⟩ := hcell i hi
      obtain ⟨s0, f0, g0, w0⟩ := DataW.trod_string (by exact Tryz.underlying9) t0
      obtain ⟨k1, f1, _, _⟩ := DataW.trod_int (by exact Tryz.underlying3) t1
      obtain ⟨s2, f2, g2, w2⟩ := DataW.trod_string (by exact Tryz.underlying9) t2
      obtain ⟨k3, f3, _, _⟩ := DataW.trod_int (by exact Tryz.underlying3) t3
      simp only [List.cons.injEq, and_true] at f0 f1 f2 f3
      exact ⟨⟨s0.data.toList, k1, s2.data.toList, k3⟩, by rw [e0, f0, txt_data], by rw [e1, f1], by rw [e2, f2, txt_data], by rw [e3, f3], by show s0.data.toList.length ≤ _; rw [← Lib.size_eq]; exact w0⟩
    haveI : Inhabited Nd := ⟨⟨[], 0, [], 0⟩⟩
    obtain ⟨R, hR⟩ := Deep.choose_lt hch
    have hrl : ((List.range len).map R).length = len := by simp
    refine ⟨(List.range len).map R, hrl, fun h0 => ?_, (fun e => by cases e), by rw [hrl]; exact hl, fun m hm => ?_, by rw [hrl]; exact hlen⟩
    · rw [hrl] at h0
      obtain ⟨b, off, spot⟩ := ad
      have c0 := (hR 0 (by omega)).1
      have hspot : spot = none := by simpa [Addr.add] using World.cell?_spot c0
      subst hspot
      rw [add_plain] at c0
      refine ⟨b, off, rfl, (World.block_lt_of_cell? _ _ c0 :), fun k r hk => ?_⟩
      have hkl : k < len := by have := (List.getElem?_eq_some_iff.1 hk).1; rw [hrl] at this; exact this
      rw [List.getElem?_map, List.getElem?_range hkl] at hk
      simp only [Option.map_some, Option.some.injEq] at hk
      subst hk
      obtain ⟨d0, d1, d2, d3, _⟩ := hR k hkl
      rw [add_plain] at d0 d1 d2 d3
      exact ⟨d0, by rw [← d1, Nat.add_assoc], by rw [← d2, Nat.add_assoc], by rw [← d3, Nat.add_assoc]⟩
    · obtain ⟨i, hi, rfl⟩ := List.mem_map.1 hm
      have := hR i (List.mem_range.1 hi)
      exact this.2.2.2.2
end TF
end Go.Proofs.YtmpmmebmhffaeaaGreatDoor
