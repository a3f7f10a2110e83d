/- Layer 6: the contracts of the program's fault, done. -/
import Derived.Test.YtfbhbadcgecgmaaGreatDoorTreeGoA
import Derived.Deep.RegionWith
namespace Go.Proofs.YtfbhbadcgecgmaaGreatDoor
open Go.RowKit Go.Lib Go.BigFrame
namespace TG
open OM TP TM TR

theorem box3 (w : World) (a b c : Value) (t : TypeId) :
    (w.alloc (.cells #[a, b, c] t)).cell? ⟨w.heap.size, 0, none⟩ = some a ∧ (w.alloc (.cells #[a, b, c] t)).cell? ⟨w.heap.size, 1, none⟩ = some b ∧ (w.alloc (.cells #[a, b, c] t)).cell? ⟨w.heap.size, 2, none⟩ = some c := by
  have h := heap_alloc_new w (.cells #[a, b, c] t)
  exact ⟨by rw [cell_of_row _ _ 0 _ _ _ h]; rfl, by rw [cell_of_row _ _ 1 _ _ _ h]; rfl, by rw [cell_of_row _ _ 2 _ _ _ h]; rfl⟩
/-- The first error of a change, or none. -/
def faultL (ts : List Nd) (p : List UInt8) (cs : List Nd) : Nat :=
  if cs ≠ [] ∧ dirB ts (NP.parentL p) = false then 62
  else if badP cs = true then 11
  else if 1000 < (outL ts p cs).length then 32 else 0
/-- What is asked of a change, as it lies. -/
structure ChIn (w : World) (ao : Option Addr) (ca : Nat) (ts : List Nd) (p : List UInt8) (bo : Option Addr) (cb : Nat) (cs : List Nd) : Prop where
  env : NF.Env w
  layT : LayN w ao ts
  layC : LayN w bo cs
  tree : treeB ts = true
  smallT : SmallG ts
  smallC : SmallG cs
  lenC : cs.length ≤ 1000
  lenP : p.length ≤ 1048576
  capT : ts.length ≤ ca
  noT : ao = none → ca = 0
  noC : bo = none → cb = 0
theorem ChIn.below {w W : World} {ao : Option Addr} {ca : Nat} {ts : List Nd} {p : List UInt8} {bo : Option Addr} {cb : Nat} {cs : List Nd} (h : ChIn w ao ca ts p bo cb cs) (hb : Below w.heap.size w W) : ChIn W ao ca ts p bo cb cs :=
  ⟨h.env.below hb, h.layT.below hb, h.layC.below hb, h.tree, h.smallT, h.smallC, h.lenC, h.lenP, h.capT, h.noT, h.noC⟩
set_option maxRecDepth 100000 in
set_option maxHeartbeats 6400000 in
theorem fault_any (ao : Option Addr) (ca : Nat) (ts : List Nd) (p : List UInt8) (bo : Option Addr) (cb : Nat) (cs : List Nd) (w : World) (h : ChIn w ao ca ts p bo cb cs) (S : ByteArray) (hS : txt p = .string S) :
    Calls Tryz.prog 146 #[.agg #[.slice ao ts.length ca, .string S, .slice bo cs.length cb]] w fun r w' => r = .returned (.int .i64 (faultL ts p cs : Nat)) ∧ Below w.heap.size w w' := by
  have ht := (tree_iff ts).1 h.tree
  have hSd : S.data.toList = p := by unfold txt at hS; injection hS with hS; rw [← hS]
  obtain ⟨U, hU, _⟩ := txt_of (NP.parentL p)
  obtain ⟨bd, hbd⟩ : ∃ b, dirB ts (NP.parentL p) = b := ⟨_, rfl⟩
  obtain ⟨bb, hbb⟩ : ∃ b, badP cs = b := ⟨_, rfl⟩
  have CW : Hid (∀ W, Below w.heap.size w W → Calls Tryz.prog 163 #[.slice ao ts.length ca, .string S] W (CutPost ts p W)) := Lib.hid (by rw [← hS]; exact within_calls h.env h.layT h.smallT h.lenP h.tree)
  have CP : Hid (∀ W, Below w.heap.size w W → Calls Tryz.prog 94 #[.string S] W fun e w' => e = .returned (.string U) ∧ Below W.heap.size W w') := Lib.hid (fun W hW => by
    have := parent_txt S p W (h.env.below hW) hSd h.lenP
    rw [hU] at this
    exact this)
  have CD : Hid (∀ W, Below w.heap.size w W → Calls Tryz.prog 120 #[.slice ao ts.length ca, .string U] W fun r w' => r = .returned (.bool bd) ∧ Below W.heap.size W w') := Lib.hid (fun W hW => by
    have := hasDir_any ao ca ts (NP.parentL p) W (h.layT.below hW) ht.sorted h.smallT ht.len (Nat.le_trans (parent_len p) h.lenP)
    rw [hU, hbd] at this
    exact this)
  have CF : Hid (∀ W, Below w.heap.size w W → Calls Tryz.prog 164 #[.slice bo cs.length cb, .func (.func 165) #[] #[]] W fun r w' => r = .returned (.bool bb) ∧ Below W.heap.size W w') := Lib.hid (fun W hW => by
    have := contains_any bo cb cs W (h.env.below hW) (h.layC.below hW) h.smallC h.lenC
    rw [hbb] at this
    exact this)
  have HLen : Hid (∀ i j, Cut ts p i j → (outL ts p cs).length = ts.length - (j - i) + cs.length) := Lib.hid (fun i j hc => hc.len ht.path cs)
  have hm0 : 0 < cs.length ↔ cs ≠ [] := List.length_pos_iff
  have HFl : Hid (faultL ts p cs = if cs ≠ [] ∧ bd = false then 62 else if bb = true then 11 else if 1000 < (outL ts p cs).length then 32 else 0) := Lib.hid (by unfold faultL; rw [hbd, hbb])
  have hn := ht.len
  have hm := h.lenC
  obtain ⟨F, hF⟩ : ∃ F, faultL ts p cs = F := ⟨_, rfl⟩
  obtain ⟨n, hnn⟩ : ∃ n, ts.length = n := ⟨_, rfl⟩
  obtain ⟨m, hmm⟩ : ∃ m, cs.length = m := ⟨_, rfl⟩
  obtain ⟨O, hO⟩ : ∃ O, (outL ts p cs).length = O := ⟨_, rfl⟩
  have HNn := Lib.hid hnn
  rw [hF] at HFl ⊢
  rw [hnn] at CW CD HLen hn ⊢
  rw [hmm] at CF HLen hm hm0 ⊢
  rw [hO] at HLen HFl
  have hmz : (m : Int) ≤ 1000 := by omega
  have hnz : (n : Int) ≤ 1000 := by omega
  obtain ⟨w0, hw0⟩ : ∃ w0, w.alloc (.cells #[.slice ao n ca, .string S, .slice bo m cb] 179) = w0 := ⟨_, rfl⟩
  have hb0 : Below w.heap.size w w0 := by rw [← hw0]; exact (Below.refl _ _).alloc (Nat.le_refl _) _
  obtain ⟨t0, t1, t2⟩ := box3 w (.slice ao n ca) (.string S) (.slice bo m cb) 179
  rw [hw0] at t0 t1 t2
  have hz0 : w.heap.size < w0.heap.size := by rw [← hw0]; simp
  have HB0 := Lib.hid hb0
  have HBx : Hid (∀ W, Below w0.heap.size w0 W → W.cell? ⟨w.heap.size, 0, none⟩ = some (.slice ao n ca) ∧ W.cell? ⟨w.heap.size, 1, none⟩ = some (.string S) ∧ W.cell? ⟨w.heap.size, 2, none⟩ = some (.slice bo m cb)) := Lib.hid (fun W hW =>
    ⟨(hW.cell (p := ⟨w.heap.size, 0, none⟩) hz0).trans t0, (hW.cell (p := ⟨w.heap.size, 1, none⟩) hz0).trans t1, (hW.cell (p := ⟨w.heap.size, 2, none⟩) hz0).trans t2⟩)
  clear h ht hS hSd hU hbd hbb hF hnn hmm hO hb0
  go_enter Tryz.func146, Tryz.ntmps146
  repeat (first | (go_at_call 163; fail) | go_skip | go_guarded | go_step | go_upon)
  refine (CW.out _ HB0.out).mono ?_
  rintro r w1 ⟨i, j, rfl, hcut, hb⟩
  simp only []
  have hij := hcut.ij
  have hjn : j ≤ n := by have := hcut.le; have := HNn.out; omega
  have hOl := HLen.out i j hcut
  obtain ⟨q, hq⟩ : ∃ q, j - i = q := ⟨_, rfl⟩
  obtain ⟨rr, hrr⟩ : ∃ rr, n - q = rr := ⟨_, rfl⟩
  have hqz : (j : Int) - (i : Int) = (q : Int) := by omega
  have hrz : (n : Int) - (q : Int) = (rr : Int) := by omega
  have hOz : O = rr + m := by omega
  have HB01 := Lib.hid hb
  have HB1 := Lib.hid (Below.trans HB0.out (hb.mono HB0.out.size))
  have HFl2 : Hid (F = if cs ≠ [] ∧ bd = false then 62 else if bb = true then 11 else if 1000 < rr + m then 32 else 0) := Lib.hid (by rw [HFl.out, hOz])
  obtain ⟨s0, s1, s2⟩ := HBx.out w1 hb
  have hrn : rr ≤ 1000 := by omega
  have hrm : (rr : Int) + (m : Int) ≤ 2000 := by omega
  clear hb hcut hOl hq hrr hOz t0 t1 t2 hw0 HFl HLen
  have fs0 := cell_regrown s0
  have fs1 := cell_regrown s1
  have fs2 := cell_regrown s2
  by_cases hm1 : 0 < m
  · have hmp : (0 : Int) < m := by omega
    have hmd : decide ((0 : Int) < m) = true := decide_eq_true hmp
    have hne := Lib.hid (hm0.1 hm1)
    have D1 := Lib.hid (reg_g (w := w1) (f := 94) (args := #[.string S]) (v := .string U) (fun W hW => CP.out W (Below.trans HB1.out (hW.mono HB1.out.size))))
    have D2 := Lib.hid (reg_g (w := w1) (f := 120) (args := #[.slice ao n ca, .string U]) (v := .bool bd) (fun W hW => CD.out W (Below.trans HB1.out (hW.mono HB1.out.size))))
    have hmn : decide (0 < m) = true := decide_eq_true hm1
    clear hm0
    repeat (first | go_skip | go_guarded | go_step | go_upon)
    with_reducible refine wp_region_quiet_below (by kernel_rfl) (by kernel_rfl) ?_
    repeat (go_big_quiet_step (first | (go_at_call 94; exact D1.out _ _) | (go_at_call 120; exact D2.out _ _)))
    refine wpQuiet_nil ?_
    intro _ hw'
    obtain ⟨⟨dq, osq⟩, hw''⟩ := hw'
    subst hw''
    have W2 : Hid (Below w1.heap.size w1 (Go.Sort.grow (redrawn w1 dq) osq)) := Lib.hid (below_regrown w1 dq osq)
    clear fs0 fs1 fs2 s0 s1 s2
    generalize Go.Sort.grow (redrawn w1 dq) osq = w2 at W2 ⊢
    have HB2 := Lib.hid (Below.trans HB1.out (W2.out.mono HB1.out.size))
    have HB02 := Lib.hid (Below.trans HB01.out (W2.out.mono HB01.out.size))
    obtain ⟨s0, s1, s2⟩ := HBx.out w2 HB02.out
    cases bd with
    | false =>
      have HF : Hid (F = 62) := Lib.hid (by rw [HFl2.out, if_pos ⟨hne.out, rfl⟩])
      repeat (first | go_skip | go_guarded | go_step | go_upon)
      go_ret
      exact ⟨by rw [HF.out]; rfl, HB2.out⟩
    | true =>
      cases bb with
      | true =>
        have HF : Hid (F = 11) := Lib.hid (by rw [HFl2.out, if_neg (by simp), if_pos rfl])
        repeat (first | (go_at_call 164; refine (CF.out _ HB2.out).mono ?_; rintro r w3 ⟨rfl, hb⟩; simp only []; obtain ⟨s3, s4, s5⟩ := HBx.out w3 (Below.trans HB02.out (hb.mono HB02.out.size)); have HB3 := Lib.hid (Below.trans HB2.out (hb.mono HB2.out.size)); clear hb) | go_skip | go_guarded | go_step | go_upon)
        go_ret
        exact ⟨by rw [HF.out]; rfl, HB3.out⟩
      | false =>
        by_cases hgt : 1000 < rr + m
        · have hgtz : (1000 : Int) < (rr : Int) + (m : Int) := by omega
          have hgtd : decide ((1000 : Int) < (rr : Int) + (m : Int)) = true := decide_eq_true hgtz
          have HF : Hid (F = 32) := Lib.hid (by rw [HFl2.out, if_neg (by simp), if_neg (by simp), if_pos hgt])
          clear hgt
          repeat (first | (go_at_call 164; refine (CF.out _ HB2.out).mono ?_; rintro r w3 ⟨rfl, hb⟩; simp only []; obtain ⟨s3, s4, s5⟩ := HBx.out w3 (Below.trans HB02.out (hb.mono HB02.out.size)); have HB3 := Lib.hid (Below.trans HB2.out (hb.mono HB2.out.size)); clear hb) | go_skip | go_guarded | go_step | go_upon)
          go_ret
          exact ⟨by rw [HF.out]; rfl, HB3.out⟩
        · have hgtz : ¬ (1000 : Int) < (rr : Int) + (m : Int) := by omega
          have hgtd : decide ((1000 : Int) < (rr : Int) + (m : Int)) = false := decide_eq_false hgtz
          have HF : Hid (F = 0) := Lib.hid (by rw [HFl2.out, if_neg (by simp), if_neg (by simp), if_neg hgt])
          clear hgt
          repeat (first | (go_at_call 164; refine (CF.out _ HB2.out).mono ?_; rintro r w3 ⟨rfl, hb⟩; simp only []; obtain ⟨s3, s4, s5⟩ := HBx.out w3 (Below.trans HB02.out (hb.mono HB02.out.size)); have HB3 := Lib.hid (Below.trans HB2.out (hb.mono HB2.out.size)); clear hb) | go_skip | go_guarded | go_step | go_upon)
          go_ret
          exact ⟨by rw [HF.out]; rfl, HB3.out⟩
  · have hmp : ¬ (0 : Int) < m := by omega
    have hmd : decide ((0 : Int) < m) = false := decide_eq_false hmp
    have hne : Hid (cs = []) := Lib.hid (by
      cases hcs : cs with
      | nil => rfl
      | cons a b => exact absurd (hm0.2 (by rw [hcs]; simp)) hm1)
    have hmn : decide (0 < m) = false := decide_eq_false hm1
    clear hm0
    repeat (first | go_skip | go_guarded | go_step | go_upon)
    with_reducible refine wp_region_quiet_below (by kernel_rfl) (by kernel_rfl) ?_
    repeat (go_big_quiet_step (fail))
    refine wpQuiet_nil ?_
    intro _ hw'
    obtain ⟨⟨dq, osq⟩, hw''⟩ := hw'
    subst hw''
    have W2 : Hid (Below w1.heap.size w1 (Go.Sort.grow (redrawn w1 dq) osq)) := Lib.hid (below_regrown w1 dq osq)
    clear fs0 fs1 fs2 s0 s1 s2
    generalize Go.Sort.grow (redrawn w1 dq) osq = w2 at W2 ⊢
    have HB2 := Lib.hid (Below.trans HB1.out (W2.out.mono HB1.out.size))
    have HB02 := Lib.hid (Below.trans HB01.out (W2.out.mono HB01.out.size))
    obtain ⟨s0, s1, s2⟩ := HBx.out w2 HB02.out
    cases bb with
    | true =>
      have HF : Hid (F = 11) := Lib.hid (by rw [HFl2.out, if_neg (by rw [hne.out]; simp), if_pos rfl])
      repeat (first | (go_at_call 164; refine (CF.out _ HB2.out).mono ?_; rintro r w3 ⟨rfl, hb⟩; simp only []; obtain ⟨s3, s4, s5⟩ := HBx.out w3 (Below.trans HB02.out (hb.mono HB02.out.size)); have HB3 := Lib.hid (Below.trans HB2.out (hb.mono HB2.out.size)); clear hb) | go_skip | go_guarded | go_step | go_upon)
      go_ret
      exact ⟨by rw [HF.out]; rfl, HB3.out⟩
    | false =>
      by_cases hgt : 1000 < rr + m
      · exact absurd hgt (by omega)
      · have hgtz : ¬ (1000 : Int) < (rr : Int) + (m : Int) := by omega
        have hgtd : decide ((1000 : Int) < (rr : Int) + (m : Int)) = false := decide_eq_false hgtz
        have HF : Hid (F = 0) := Lib.hid (by rw [HFl2.out, if_neg (by rw [hne.out]; simp), if_neg (by simp), if_neg hgt])
        clear hgt
        repeat (first | (go_at_call 164; refine (CF.out _ HB2.out).mono ?_; rintro r w3 ⟨rfl, hb⟩; simp only []; obtain ⟨s3, s4, s5⟩ := HBx.out w3 (Below.trans HB02.out (hb.mono HB02.out.size)); have HB3 := Lib.hid (Below.trans HB2.out (hb.mono HB2.out.size)); clear hb) | go_skip | go_guarded | go_step | go_upon)
        go_ret
        exact ⟨by rw [HF.out]; rfl, HB3.out⟩
end TG
end Go.Proofs.YtfbhbadcgecgmaaGreatDoor
