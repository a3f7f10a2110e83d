/- Layer 9: the walk of ArchBares. -/
import Derived.Test.YtfkaackhikbbkaaGreatDoorArQBare
import Derived.Test.YtfkaackhikbbkaaGreatDoorArAw
import Derived.Test.YtfkaackhikbbkaaGreatDoorArRS
import Derived.Lib.MinMax
namespace Go.Proofs.YtfkaackhikbbkaaGreatDoor
open Go.RowKit Go.Lib Go.BigFrame
namespace AL
open OM TP TM TG TW TR AP AR AD AB HX HV

theorem app_lit (w2 : World) (ao : Option Addr) (ca : Nat) (ts : List Nd) (h : Wide w2 ao ca ts) (hl : ts.length ≤ 1048576) :
    ∃ a' c' W5, (Builtin.append_ #[22, 22] 22 #[.slice (some ⟨w2.heap.size, 0, none⟩) 0 0, .slice ao ts.length ca]).run Tryz.prog (w2.alloc (.cells #[] 25)) = .ok (.slice a' ts.length c') W5 ∧ W5.ownsRow w2.heap.size 25 4 (.slice a' ts.length c') ts.length (nodesC ts) ∧ Below w2.heap.size w2 W5 := by
  obtain ⟨i0, hi, hz0, hz1, hz2⟩ := HR.info_parts (t := 25) infoN
  have HOw : (w2.alloc (.cells #[] 25)).ownsRow w2.heap.size 25 4 (.slice (some ⟨w2.heap.size, 0, none⟩) 0 0) 0 [] := World.ownsRow_made w2 #[] 0 (Nat.le_refl _) (Nat.zero_le _) rfl
  cases ao with
  | none =>
    have h0 : ts = [] := by
      apply List.eq_nil_of_length_eq_zero
      rcases Nat.eq_zero_or_pos ts.length with h1 | h1
      · exact h1
      · obtain ⟨g, o, e, _⟩ := h.lay h1
        cases e
    have hc := h.no rfl
    subst h0
    subst hc
    exact ⟨_, _, _, run_append_owned_none (P := Tryz.prog) (w := w2.alloc (.cells #[] 25)) w2.heap.size 22 22 25 i0 4 Tryz.underlying22 hi _ 0 [] HOw, HOw, (Below.refl _ _).alloc (Nat.le_refl _) _⟩
  | some ad =>
    have hly := lay_cells (h.lay.below ((Below.refl w2.heap.size w2).alloc (Nat.le_refl _) (.cells #[] 25)))
    obtain ⟨v', W5, hr, ho, hg, _⟩ := run_append_own (P := Tryz.prog) (w := w2.alloc (.cells #[] 25)) w2.heap.size 22 22 25 i0 (ndVal zeroN) 4 48 Tryz.underlying22 hi hz0 hz1 hz2 rfl (by decide) _ 0 [] HOw ad ts.length ca
      (nodesC ts) (nodes_len ts) hly (nds_one ts) (by unfold maxLen; omega) (by omega) (by rw [World.size_alloc]; omega)
    rw [Nat.zero_add, List.nil_append] at ho
    obtain ⟨a', c', hv', _⟩ := owns_view ho
    subst hv'
    refine ⟨a', c', W5, hr, ho, ?_⟩
    exact (((FP.Out.refl (fun k => w2.heap.size ≤ k) w2).alloc (.cells #[] 25)).grown hg (fun k hk hlt => by simp [Value.ownBlock] at hk; omega)).below (fun j hj _ hn => by omega) (Nat.le_refl _)
def BL (ts : List Nd) : List Nd := if treeB ts = true then ts.map bareF else []
theorem bl_bare (ts : List Nd) : bareB (BL ts) = true := by
  unfold BL
  by_cases h : treeB ts = true
  · rw [if_pos h]; exact bare_bare h
  · rw [if_neg h]; rfl
theorem bl_len {ts : List Nd} : (BL ts).length ≤ 1000 := by
  unfold BL
  by_cases h : treeB ts = true
  · rw [if_pos h, List.length_map]; exact ((tree_iff ts).1 h).len
  · rw [if_neg h]; exact Nat.zero_le _
theorem bl_path {ts : List Nd} {m : Nat} (h : ∀ n ∈ ts, n.path.length ≤ m) : ∀ n ∈ BL ts, n.path.length ≤ m := by
  unfold BL
  by_cases ht : treeB ts = true
  · rw [if_pos ht]
    intro n hn
    obtain ⟨x, hx, rfl⟩ := List.mem_map.1 hn
    rw [bf_path]
    exact h x hx
  · rw [if_neg ht]
    intro n hn
    simp at hn
theorem bare_post {ts : List Nd} {w w' : World} {r : Ending} (h : BarePost ts w r w') : ∃ b c, r = .returned (.tuple #[.slice b (BL ts).length c, .int .i64 (checkE ts : Nat)]) ∧ w'.ownsRow w.heap.size 25 4 (.slice b (BL ts).length c) (BL ts).length (nodesC (BL ts)) ∧ Below w.heap.size w w' := by
  unfold BarePost at h
  unfold BL checkE
  by_cases ht : treeB ts = true
  · rw [if_pos ht] at h ⊢
    rw [if_pos ht]
    obtain ⟨v, rfl, ho, hb⟩ := h
    obtain ⟨a', c', hv', _⟩ := owns_view ho
    subst hv'
    rw [List.length_map]
    exact ⟨a', c', rfl, ho, hb⟩
  · rw [if_neg ht] at h ⊢
    rw [if_neg ht]
    obtain ⟨rfl, hb⟩ := h
    exact ⟨none, 0, rfl, World.ownsRow_nil _ _ _ _, hb⟩
def dsum (l : List Nd) : Nat := (l.map fun n => min n.data.length 2001).sum
theorem dsum_snoc {ts : List Nd} {k : Nat} {x : Nd} (hx : ts[k]? = some x) : dsum (ts.take (k + 1)) = dsum (ts.take k) + min x.data.length 2001 := by
  unfold dsum
  rw [List.take_add_one, hx, Option.toList_some, List.map_append, List.sum_append]
  simp
theorem dsum_le (l : List Nd) : dsum l ≤ 2001 * l.length := by
  induction l with
  | nil => exact Nat.zero_le _
  | cons a l ih =>
    unfold dsum at ih ⊢
    rw [List.map_cons, List.sum_cons, List.length_cons]
    omega
theorem dsum_mem {l : List Nd} {x : Nd} (hx : x ∈ l) : min x.data.length 2001 ≤ dsum l := by
  unfold dsum
  induction l with
  | nil => simp at hx
  | cons a l ih =>
    rw [List.map_cons, List.sum_cons]
    rcases List.mem_cons.1 hx with rfl | h
    · omega
    · have := ih h
      omega
set_option maxRecDepth 100000 in
set_option maxHeartbeats 12800000 in
theorem bares_any (ao : Option Addr) (ca : Nat) (ts : List Nd) (w : World) (he : Env w) (hq : HQ.Env w) (h : Wide w ao ca ts) (hs : Small ts) (hl : ts.length ≤ 1048576) :
    Calls Tryz.prog 3 #[.slice ao ts.length ca] w fun r w' => r = .returned (.bool true) ∧ Below w.heap.size w w' := by
  have CW := Lib.hid (awake_any w he)
  have HL := Lib.hid h.lay
  have HDs : Hid (dsum ts ≤ 2000 → ∀ n ∈ ts, n.kind ≠ 2 → n.data.length ≤ 100000) := Lib.hid (fun e n hn _ => by have := dsum_mem hn; omega)
  have CA : Hid (∀ (W : World) (a' : Option Addr) (c' : Nat), Below w.heap.size w W → Wide W a' c' ts → Calls Tryz.prog 10 #[.slice a' ts.length c'] W (BarePost ts W)) := Lib.hid (fun W a' c' hW hw => bare_any a' c' ts W (he.below hW).nf (HQ.Env.below hq hW) hw)
  have CB : Hid (dsum ts ≤ 2000 → ∀ W, Below w.heap.size w W → Calls Tryz.prog 11 #[.slice ao ts.length ca] W (BarePost ts W)) := Lib.hid (fun e W hW => rbare9_any ao ca ts W (h.lay.below hW) hs h.max (HDs.out e))
  have CI : Hid (∀ W, Below w.heap.size w W → Calls Tryz.prog 13 #[.slice ao ts.length ca] W fun r w' => r = .returned (.bool (bareB ts)) ∧ Below W.heap.size W w') := Lib.hid (fun W hW => isBare_any ao ca ts W (he.below hW).nf (h.below hW))
  have CJ : Hid (∀ W, Below w.heap.size w W → Calls Tryz.prog 14 #[.slice ao ts.length ca] W fun r w' => r = .returned (.bool (bareB ts)) ∧ Below W.heap.size W w') := Lib.hid (fun W hW => risBare_any ao ca ts W (h.lay.below hW) hs h.max)
  have CK : Hid (∀ (W : World) (b : Option Addr) (c : Nat), Below w.heap.size w W → Wide W b c (BL ts) → Calls Tryz.prog 13 #[.slice b (BL ts).length c] W fun r w' => r = .returned (.bool true) ∧ Below W.heap.size W w') := Lib.hid (fun W b c hW hw => by
    have := isBare_any b c (BL ts) W (he.below hW).nf hw
    rw [bl_bare] at this
    exact this)
  have HWd := Lib.hid h
  have HLong := Lib.hid h.long
  have HBl := Lib.hid (bl_len (ts := ts))
  have hdl := dsum_le ts
  obtain ⟨n, hn⟩ : ∃ n, ts.length = n := ⟨_, rfl⟩
  obtain ⟨m, hm⟩ : ∃ m, (BL ts).length = m := ⟨_, rfl⟩
  obtain ⟨E, hE⟩ : ∃ m, checkE ts = m := ⟨_, rfl⟩
  obtain ⟨bb, hbb⟩ : ∃ m, bareB ts = m := ⟨_, rfl⟩
  have HN := Lib.hid hn
  have HM := Lib.hid hm
  have HEe := Lib.hid hE
  rw [hn] at CA CB CI CJ hl hdl ⊢
  rw [hbb] at CI CJ
  rw [hm] at CK
  have hnz : (n : Int) ≤ 1048576 := by omega
  have hbe : (bb == bb) = true := by cases bb <;> rfl
  clear h he hq hs hn hm hE hbb hdl
  go_enter Tryz.func3, Tryz.ntmps3
  repeat (first | (go_at_call 9; fail) | go_skip | go_guarded | go_step | go_upon)
  refine CW.out.mono ?_
  rintro r w2 ⟨rfl, hb⟩
  simp only []
  have B2 := Lib.hid hb
  have HL2 := Lib.hid (HL.out.below hb)
  have HW2 := Lib.hid (HWd.out.below hb)
  clear hb
  repeat (first | go_skip | go_guarded | go_step | go_upon)
  go_loop [3, 14] (fun s3 s14 => ∃ k : Nat, s14 = .int .i64 k ∧ s3 = .int .i64 ((dsum (ts.take k) : Nat) : Int) ∧ k ≤ n) (fun _ s14 => n - (Go.RowKit.intOf s14).toNat)
  case atStart => exact ⟨0, rfl, rfl, Nat.zero_le _⟩
  case round =>
    obtain ⟨k, rfl, rfl, hk⟩ := hrel
    have hdk := dsum_le (ts.take k)
    have htl : (ts.take k).length ≤ 1048576 := by rw [List.length_take, HN.out]; omega
    by_cases hlt : k < n
    · have hkz : (k : Int) < n := by omega
      obtain ⟨g, o, rfl, hg, hcell⟩ := HL2.out (by rw [HN.out]; omega)
      obtain ⟨x, hx⟩ : ∃ x, ts[k]? = some x := ⟨ts[k]'(by rw [HN.out]; exact hlt), List.getElem?_eq_getElem _⟩
      obtain ⟨d0, d1, d2, d3⟩ := hcell k x hx
      obtain ⟨D, hDt⟩ : ∃ D : ByteArray, ⟨x.data.toArray⟩ = D := ⟨_, rfl⟩
      unfold txt at d2
      rw [hDt] at d2
      have HS := Lib.hid (dsum_snoc hx)
      have hdz : D.size = x.data.length := by rw [← hDt, Lib.size_eq]
      obtain ⟨dl, hdl⟩ : ∃ d, x.data.length = d := ⟨_, rfl⟩
      rw [hdl] at hdz HS
      obtain ⟨q, hqm⟩ : ∃ q, min dl 2001 = q := ⟨_, rfl⟩
      have hql : q ≤ 2001 := by omega
      have hq1 : min (dl : Int) 2001 = q := by omega
      have hq2 : min (2001 : Int) dl = q := by omega
      rw [hqm] at HS
      obtain ⟨s, hsn⟩ : ∃ s, dsum (ts.take k) = s := ⟨_, rfl⟩
      rw [hsn] at HS hdk ⊢
      have hsb : (s : Int) + q ≤ 4196306976 := by omega
      clear hcell hx hDt d0 d1 d3 hlt hdl hqm hdk htl
      repeat (first | go_skip | go_guarded | go_step | go_upon)
      exact ⟨⟨k + 1, by go_num, by rw [HS.out]; go_num, by omega⟩, by simp [Go.RowKit.intOf]; omega⟩
    · have hkz : ¬ (k : Int) < n := by omega
      have hkn : n = k := by omega
      subst hkn
      clear hdk htl hlt
      have hall : ts.take n = ts := List.take_of_length_le (by rw [HN.out]; exact Nat.le_refl _)
      rw [hall]
      obtain ⟨S, hS⟩ : ∃ s, dsum ts = s := ⟨_, rfl⟩
      rw [hS] at CB ⊢
      by_cases hS2 : 2000 < S
      · have hz : (2000 : Int) < S := by omega
        clear hall hS
        repeat (first | go_skip | go_guarded | go_step | go_upon)
        go_ret
        exact ⟨rfl, B2.out⟩
      · have hz : ¬ (2000 : Int) < S := by omega
        have CB2 := Lib.hid (CB.out (by omega))
        obtain ⟨a', c', W5, hrun, hown, hb5⟩ := app_lit w2 ao ca ts HW2.out (by rw [HN.out]; omega)
        rw [HN.out] at hrun hown
        have B5 := Lib.hid (B2.out.trans (hb5.mono B2.out.size))
        obtain ⟨i1, i2, e1, hwi⟩ := AD.wide_own (ts := ts) hown HN.out.symm HLong.out
        injection e1 with e1 e8 e3
        clear e8
        subst e1 e3
        have HWi := Lib.hid hwi
        clear hall hS hS2 hown hb5 hwi
        repeat (first | (at_builtin; refine wpList_append_run _ rfl _ _ _ _ rfl _ _ rfl rfl _ _ hrun ?_) | go_skip | go_guarded | go_step | go_upon)
        refine (CA.out W5 a' c' B5.out HWi.out).mono ?_
        rintro r W6 h6
        obtain ⟨b, c, rfl, ho6, hb6⟩ := bare_post h6
        simp only []
        rw [HM.out, HEe.out]
        rw [HM.out] at ho6
        have B6 := Lib.hid (B5.out.trans (hb6.mono B5.out.size))
        have HWi6 := Lib.hid (HWi.out.below hb6)
        obtain ⟨b1, b2, e1, hwb⟩ := AD.wide_own (ts := BL ts) ho6 HM.out.symm (bl_path HLong.out)
        injection e1 with e1 e8 e3
        clear e8
        subst e1 e3
        have HWb := Lib.hid hwb
        clear h6 ho6 hb6 hwb hrun
        repeat (first | (go_at_call 11; fail) | go_skip | go_guarded | go_step | go_upon)
        refine (CB2.out W6 B6.out).mono ?_
        rintro r W7 h7
        obtain ⟨d, f, rfl, ho7, hb7⟩ := bare_post h7
        simp only []
        rw [HM.out, HEe.out]
        rw [HM.out] at ho7
        have B7 := Lib.hid (B6.out.trans (hb7.mono B6.out.size))
        have HWi7 := Lib.hid (HWi6.out.below hb7)
        have HWb7 := Lib.hid (HWb.out.below hb7)
        obtain ⟨d1, d2, e1, hwd⟩ := AD.wide_own (ts := BL ts) ho7 HM.out.symm (bl_path HLong.out)
        injection e1 with e1 e8 e3
        clear e8
        subst e1 e3
        have hml : m ≤ maxLen := by have := HBl.out; rw [HM.out] at this; unfold maxLen; omega
        have hS1 := rsame_any b d c f (BL ts) (BL ts) W7 HWb7.out.lay hwd.lay (by rw [HM.out]; exact hml) (by rw [HM.out]; exact hml)
        rw [decide_eq_true rfl, HM.out] at hS1
        have HS1 := Lib.hid hS1
        clear h7 ho7 hb7 hwd hS1 hml
        repeat (first | (go_at_call 12; fail) | go_skip | go_guarded | go_step | go_upon)
        refine HS1.out.mono ?_
        rintro r W8 ⟨rfl, hb8⟩
        simp only []
        have B8 := Lib.hid (B7.out.trans (hb8.mono B7.out.size))
        have HWi8 := Lib.hid (HWi7.out.below hb8)
        have HWb8 := Lib.hid (HWb7.out.below hb8)
        clear hb8
        repeat (first | (go_at_call 13; fail) | go_skip | go_guarded | go_step | go_upon)
        refine (CI.out W8 B8.out).mono ?_
        rintro r W9 ⟨rfl, hb9⟩
        simp only []
        have B9 := Lib.hid (B8.out.trans (hb9.mono B8.out.size))
        have HWi9 := Lib.hid (HWi8.out.below hb9)
        have HWb9 := Lib.hid (HWb8.out.below hb9)
        clear hb9
        repeat (first | (go_at_call 14; fail) | go_skip | go_guarded | go_step | go_upon)
        refine (CJ.out W9 B9.out).mono ?_
        rintro r W10 ⟨rfl, hb10⟩
        simp only []
        have B10 := Lib.hid (B9.out.trans (hb10.mono B9.out.size))
        have HWi10 := Lib.hid (HWi9.out.below hb10)
        have HWb10 := Lib.hid (HWb9.out.below hb10)
        clear hb10
        repeat (first | (go_at_call 13; fail) | go_skip | go_guarded | go_step | go_upon)
        refine (CK.out W10 b c B10.out HWb10.out).mono ?_
        rintro r W11 ⟨rfl, hb11⟩
        simp only []
        have B11 := Lib.hid (B10.out.trans (hb11.mono B10.out.size))
        have hS2 := rsame_any a' ao c' ca ts ts W11 (HWi10.out.below hb11).lay (HL.out.below B11.out) HWi10.out.max HWi10.out.max
        rw [decide_eq_true rfl, HN.out] at hS2
        have HS2 := Lib.hid hS2
        clear hb11 hS2
        repeat (first | (go_at_call 12; fail) | go_skip | go_guarded | go_step | go_upon)
        refine HS2.out.mono ?_
        rintro r W12 ⟨rfl, hb12⟩
        simp only []
        have B12 := Lib.hid (B11.out.trans (hb12.mono B11.out.size))
        clear hb12
        repeat (first | go_skip | go_guarded | go_step | go_upon)
        go_ret
        exact ⟨by first | rfl | simp, B12.out⟩
end AL
end Go.Proofs.YtfkaackhikbbkaaGreatDoor
