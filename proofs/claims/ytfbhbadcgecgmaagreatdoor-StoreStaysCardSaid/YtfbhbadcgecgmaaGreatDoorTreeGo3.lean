/- Layer 6: the contracts of the program's within, goesOn, rightNode, hasNoPath. -/
import Derived.Test.YtfbhbadcgecgmaaGreatDoorTreeGo2
namespace Go.Proofs.YtfbhbadcgecgmaaGreatDoor
open Go.RowKit Go.Lib Go.BigFrame
namespace TG
open OM TP TM

theorem cut_of {ts : List Nd} {p : List UInt8} {i k : Nat} (hso : Sorted ts) (hpa : ∀ n ∈ ts, NP.pathL n.path = true) (hp : PlaceAt ts p i) (hk : k ≤ ts.length - i)
    (h1 : ∀ t, t < k → ∀ x, ts[i + t]? = some x → (!NP.withinL x.path p) = false) (h2 : ∀ t, k ≤ t → t < ts.length - i → ∀ x, ts[i + t]? = some x → (!NP.withinL x.path p) = true) : Cut ts p i (i + k) := by
  refine ⟨hp, by omega, by have := hp.le; omega, fun m x hm hm2 hx => ?_, fun m x hm hx => ?_⟩
  · have := h1 (m - i) (by omega) x (by rw [show i + (m - i) = m by omega]; exact hx)
    simpa using this
  · have hl := (List.getElem?_eq_some_iff.1 hx).1
    have := h2 (m - i) (by omega) (by omega) x (by rw [show i + (m - i) = m by omega]; exact hx)
    simpa using this
set_option maxRecDepth 100000 in
set_option maxHeartbeats 3200000 in
theorem within_any (ao : Option Addr) (cap : Nat) (ts : List Nd) (p : List UInt8) (w : World) (he : NF.Env w) (h : LayN w ao ts) (hso : Sorted ts) (hpa : ∀ n ∈ ts, NP.pathL n.path = true) (hs : SmallG ts) (hl : ts.length ≤ 1000) (hp : p.length ≤ 1048576) :
    Calls Tryz.prog 163 #[.slice ao ts.length cap, txt p] w (CutPost ts p w) := by
  have CP : Hid (∀ W, Below w.heap.size w W → Calls Tryz.prog 144 #[.slice ao ts.length cap, txt p] W (PlacePost ts p W)) := Lib.hid (fun W hW => place_any ao cap ts p W (h.below hW) hso hs hl hp)
  have HL := Lib.hid h
  have HS := Lib.hid hs
  have HSo := Lib.hid hso
  have HPa := Lib.hid hpa
  have HE := Lib.hid he
  obtain ⟨n, hn⟩ : ∃ n, ts.length = n := ⟨_, rfl⟩
  have HN := Lib.hid hn
  obtain ⟨S, hS, hSd⟩ := txt_of p
  have HTx := Lib.hid hS
  rw [hn, hS] at CP ⊢
  rw [hn] at hl
  have B0 : Hid (Below w.heap.size w ((w.alloc (.cells #[.slice ao n cap] 130)).alloc (.cells #[.string S] 9))) := Lib.hid (((Below.refl _ _).alloc (Nat.le_refl _) _).alloc (by simp) _)
  have L0 : Hid (((w.alloc (.cells #[.slice ao n cap] 130)).alloc (.cells #[.string S] 9)).cell? ⟨w.heap.size, 0, none⟩ = some (.slice ao n cap)) := Lib.hid (by
    have := cell_box w (.slice ao n cap) 130
    exact (((Below.refl (w.alloc (.cells #[.slice ao n cap] 130)).heap.size _).alloc (Nat.le_refl _) (.cells #[.string S] 9)).cell (p := ⟨w.heap.size, 0, none⟩) (by simp)).trans this)
  have P0 : Hid (((w.alloc (.cells #[.slice ao n cap] 130)).alloc (.cells #[.string S] 9)).cell? ⟨w.heap.size + 1, 0, none⟩ = some (.string S)) := Lib.hid (by
    have := cell_box (w.alloc (.cells #[.slice ao n cap] 130)) (.string S) 9
    rw [show (w.alloc (.cells #[.slice ao n cap] 130)).heap.size = w.heap.size + 1 by simp] at this
    exact this)
  clear h hso hpa hs hn hS hSd hp he
  go_enter Tryz.func163, Tryz.ntmps163
  repeat (first | (go_at_call 144; fail) | go_skip | go_guarded | go_step | go_upon)
  refine (CP.out _ B0.out).mono ?_
  rintro r w1 ⟨k, b, rfl, ⟨hpl, _⟩, hb⟩
  simp only []
  have B1 := Lib.hid (Below.trans B0.out (hb.mono B0.out.size))
  have l1 : w1.cell? ⟨w.heap.size, 0, none⟩ = some (.slice ao n cap) := (hb.cell (p := ⟨w.heap.size, 0, none⟩) (by simp; omega)).trans L0.out
  have p1 : w1.cell? ⟨w.heap.size + 1, 0, none⟩ = some (.string S) := (hb.cell (p := ⟨w.heap.size + 1, 0, none⟩) (by simp)).trans P0.out
  have hz1 : w.heap.size + 1 < w1.heap.size := by have := hb.size; simp at this; omega
  obtain ⟨w2, hw2⟩ : ∃ w2, w1.alloc (.cells #[.int .i64 (k : Int)] 3) = w2 := ⟨_, rfl⟩
  have b12 : Below w1.heap.size w1 w2 := by rw [← hw2]; exact (Below.refl _ _).alloc (Nat.le_refl _) _
  have hz2 : w2.heap.size = w1.heap.size + 1 := by rw [← hw2]; simp
  have f2 : w2.cell? ⟨w1.heap.size, 0, none⟩ = some (.int .i64 (k : Int)) := by rw [← hw2]; exact cell_box w1 _ _
  have l2 : w2.cell? ⟨w.heap.size, 0, none⟩ = some (.slice ao n cap) := (b12.cell (p := ⟨w.heap.size, 0, none⟩) (by show w.heap.size < _; omega)).trans l1
  have p2 : w2.cell? ⟨w.heap.size + 1, 0, none⟩ = some (.string S) := (b12.cell (p := ⟨w.heap.size + 1, 0, none⟩) hz1).trans p1
  have B2 := Lib.hid (Below.trans B1.out (b12.mono B1.out.size))
  have hkn : k ≤ n := by have := hpl.le; have := HN.out; omega
  obtain ⟨q, hq⟩ : ∃ q, n - k = q := ⟨_, rfl⟩
  have hqz : (n : Int) - (k : Int) = (q : Int) := by omega
  have HPl := Lib.hid hpl
  have CS : Hid (Calls Tryz.prog 133 #[.int .i64 q, .func (.func 178) #[] #[.pointer (some ⟨w.heap.size, 0, none⟩), .pointer (some ⟨w1.heap.size, 0, none⟩), .pointer (some ⟨w.heap.size + 1, 0, none⟩)]] w2 (SearchPost (fun i => match ts[k + i]? with | some x => !NP.withinL x.path p | none => true) q w2)) := Lib.hid (by
    refine search_any _ _ _ q _ w2 (by omega) (fun W i hW hi => ?_) (fun a b hab hbq ha => ?_)
    · obtain ⟨x, hx⟩ : ∃ x, ts[k + i]? = some x := ⟨ts[k + i]'(by rw [HN.out]; omega), List.getElem?_eq_getElem _⟩
      have := wc_any w.heap.size w1.heap.size (w.heap.size + 1) W (HE.out.below (Below.trans B2.out (hW.mono B2.out.size))) ao cap ts p k i x (by rw [HN.out]; exact (hW.cell (p := ⟨w.heap.size, 0, none⟩) (by show w.heap.size < _; omega)).trans l2) ((hW.cell (p := ⟨w1.heap.size, 0, none⟩) (by show w1.heap.size < _; omega)).trans f2) (by rw [HTx.out]; exact (hW.cell (p := ⟨w.heap.size + 1, 0, none⟩) (by show w.heap.size + 1 < _; omega)).trans p2) (HL.out.below (Below.trans B2.out (hW.mono B2.out.size))) HS.out (by rw [HN.out]; exact hl) hx
      rw [hx]
      exact this
    · obtain ⟨x, hx⟩ : ∃ x, ts[k + a]? = some x := ⟨ts[k + a]'(by rw [HN.out]; omega), List.getElem?_eq_getElem _⟩
      obtain ⟨y, hy⟩ : ∃ y, ts[k + b]? = some y := ⟨ts[k + b]'(by rw [HN.out]; omega), List.getElem?_eq_getElem _⟩
      rw [hx] at ha
      rw [hy]
      simp only [Bool.not_eq_true'] at ha ⊢
      rw [Bool.eq_false_iff]
      intro e
      rw [within_mono HSo.out HPa.out HPl.out (show k ≤ k + a by omega) (show k + a ≤ k + b by omega) hx hy e] at ha
      cases ha)
  have HZ := Lib.hid hz2
  have HF2 := Lib.hid f2
  have HQ := Lib.hid hq
  clear hpl hb p2 hz2 hq
  repeat (first | (go_at_call 133; fail) | go_skip | go_guarded | go_step | go_upon)
  refine CS.out.mono ?_
  rintro r w3 ⟨c, rfl, hc, h1, h2, hb⟩
  simp only []
  have hcut : Cut ts p k (k + c) := cut_of HSo.out HPa.out HPl.out (by have := HN.out; have := HQ.out; omega)
    (fun t ht x hx => by have := h1 t ht; simp only [hx] at this; exact this)
    (fun t h3 h4 x hx => by have := h2 t h3 (by have := HN.out; have := HQ.out; omega); simp only [hx] at this; exact this)
  have HC := Lib.hid hcut
  have B3 := Lib.hid (Below.trans B2.out (hb.mono B2.out.size))
  have f3 : w3.cell? ⟨w1.heap.size, 0, none⟩ = some (.int .i64 (k : Int)) := (hb.cell (p := ⟨w1.heap.size, 0, none⟩) (by show w1.heap.size < _; rw [HZ.out]; omega)).trans f2
  have hkc : k + c ≤ 1000 := by omega
  clear hc h1 h2 hb hcut f2 l1 p1 hw2 b12 l2
  repeat (first | go_skip | go_guarded | go_step | go_upon)
  go_quiet (fail)
  rename_i nq
  have B4 : Hid (Below w.heap.size w (w3.drewN nq)) := Lib.hid ⟨B3.out.os, B3.out.tape, B3.out.output, B3.out.size, B3.out.block⟩
  clear f3
  generalize w3.drewN nq = w4 at B4 ⊢
  repeat (first | go_skip | go_guarded | go_step | go_upon)
  go_ret2
  exact ⟨k, k + c, by simp, HC.out, B4.out⟩
theorem last_some {l : List Nd} (h : 0 < l.length) : ∃ y, l[l.length - 1]? = some y ∧ l.getLast? = some y := by
  refine ⟨l[l.length - 1], List.getElem?_eq_getElem _, ?_⟩
  rw [List.getLast?_eq_getElem?]
  exact List.getElem?_eq_getElem _
set_option maxRecDepth 100000 in
set_option maxHeartbeats 3200000 in
theorem goes_any (ao : Option Addr) (cap : Nat) (ts : List Nd) (p : List UInt8) (w : World) (he : NF.Env w) (h : LayN w ao ts) (hso : Sorted ts) (hs : SmallG ts) (hl : ts.length ≤ 1000) (hp : p.length ≤ 1048576) :
    Calls Tryz.prog 85 #[.slice ao ts.length cap, txt p] w fun r w' => r = .returned (.bool (goesB ts p)) ∧ Below w.heap.size w w' := by
  have cD : ∀ W, Below w.heap.size w W → Calls Tryz.prog 120 #[.slice ao ts.length cap, txt (NP.parentL p)] W fun r w' => r = .returned (.bool (dirB ts (NP.parentL p))) ∧ Below W.heap.size W w' := fun W hW => hasDir_any ao cap ts (NP.parentL p) W (h.below hW) hso hs hl (Nat.le_trans (parent_len p) hp)
  obtain ⟨S, hS, hSd⟩ := txt_of p
  obtain ⟨U, hU, _⟩ := txt_of (NP.parentL p)
  have cP : ∀ W, Below w.heap.size w W → Calls Tryz.prog 94 #[.string S] W fun e w' => e = .returned (.string U) ∧ Below W.heap.size W w' := fun W hW => by
    have := parent_txt S p W (he.below hW) hSd hp
    rw [hU] at this
    exact this
  obtain ⟨bd, hbd⟩ : ∃ b, dirB ts (NP.parentL p) = b := ⟨_, rfl⟩
  obtain ⟨n, hn⟩ : ∃ n, ts.length = n := ⟨_, rfl⟩
  rw [hn, hU, hbd] at cD
  rw [hn, hS]
  have CD := Lib.hid cD
  have CP := Lib.hid cP
  have HG : Hid (goesB ts p = ((match ts.getLast? with | none => true | some y => decide (NP.ordL y.path p < 0)) && bd)) := Lib.hid (by unfold goesB; rw [hbd]; rfl)
  have hnl : n ≤ 1000 := by omega
  by_cases h0 : 0 < n
  · have h0z : (0 : Int) < n := by omega
    have h0d : decide ((0 : Int) < n) = true := decide_eq_true h0z
    obtain ⟨y, hy, hgl⟩ := last_some (l := ts) (by omega)
    rw [hn] at hy
    obtain ⟨j, hj⟩ : ∃ j, n - 1 = j := ⟨_, rfl⟩
    have hjz : (n : Int) - 1 = (j : Int) := by omega
    have hjn : (j : Int) < n := by omega
    rw [hj] at hy
    obtain ⟨g, o, rfl, hg, hc⟩ := h (by omega)
    obtain ⟨Y, hY, hYd⟩ := txt_of y.path
    have c0 := (hc j y hy).p
    rw [hY] at c0
    obtain ⟨z, hz⟩ : ∃ z, NP.ordL y.path p = z := ⟨_, rfl⟩
    have CO : Hid (∀ W, Calls Tryz.prog 119 #[.string Y, .string S] W fun e w' => e = .returned (.int .i64 z) ∧ Below W.heap.size W w') := Lib.hid (fun W => by
      rw [← hz]
      exact order_txt Y S y.path p W hYd hSd (hs y (List.mem_of_getElem? hy)).1 hp)
    rw [hgl] at HG
    simp only [hz] at HG
    clear hn hS hSd hU hbd cD cP he h hso hs hl hp hc hy hgl hY hYd hz hj
    by_cases hz0 : z < 0
    · have hz1 : ¬ (0 : Int) ≤ z := by omega
      have HF : Hid (goesB ts p = bd) := Lib.hid (by rw [HG.out, decide_eq_true hz0]; rfl)
      clear hz0
      go_enter Tryz.func85, Tryz.ntmps85
      repeat (first
        | (go_at_call 119; refine (CO.out _).mono ?_; rintro r w1 ⟨rfl, hb⟩; simp only []; have B1 := Lib.hid hb; clear hb)
        | (go_at_call 94; refine (CP.out _ B1.out).mono ?_; rintro r w2 ⟨rfl, hb⟩; simp only []; have B2 := Lib.hid (Below.trans B1.out (hb.mono B1.out.size)); clear hb)
        | (go_at_call 120; refine (CD.out _ B2.out).mono ?_; rintro r w3 ⟨rfl, hb⟩; simp only []; have B3 := Lib.hid (Below.trans B2.out (hb.mono B2.out.size)); clear hb)
        | go_skip | go_guarded | go_step | go_upon)
      go_ret
      exact ⟨by rw [HF.out]; rfl, B3.out⟩
    · have hz1 : (0 : Int) ≤ z := by omega
      have HF : Hid (goesB ts p = false) := Lib.hid (by rw [HG.out, decide_eq_false hz0]; rfl)
      clear hz0
      go_enter Tryz.func85, Tryz.ntmps85
      repeat (first
        | (go_at_call 119; refine (CO.out _).mono ?_; rintro r w1 ⟨rfl, hb⟩; simp only []; have B1 := Lib.hid hb; clear hb)
        | go_skip | go_guarded | go_step | go_upon)
      go_ret
      exact ⟨by rw [HF.out]; rfl, B1.out⟩
  · have h0z : ¬ (0 : Int) < n := by omega
    have h0d : decide ((0 : Int) < n) = false := decide_eq_false h0z
    have hnil : ts = [] := List.length_eq_zero_iff.1 (by omega)
    have HF : Hid (goesB ts p = bd) := Lib.hid (by rw [HG.out, hnil]; rfl)
    clear hn hS hSd hU hbd cD cP he h hso hs hl hp hnil h0
    go_enter Tryz.func85, Tryz.ntmps85
    repeat (first
      | (go_at_call 94; refine (CP.out _ (Below.refl _ _)).mono ?_; rintro r w2 ⟨rfl, hb⟩; simp only []; have B2 := Lib.hid hb; clear hb)
      | (go_at_call 120; refine (CD.out _ B2.out).mono ?_; rintro r w3 ⟨rfl, hb⟩; simp only []; have B3 := Lib.hid (Below.trans B2.out (hb.mono B2.out.size)); clear hb)
      | go_skip | go_guarded | go_step | go_upon)
    go_ret
    exact ⟨by rw [HF.out]; rfl, B3.out⟩
set_option maxRecDepth 100000 in
theorem noPath_any (n : Nd) (w : World) (he : NF.Env w) (hn : n.path.length ≤ 1048576) :
    Calls Tryz.prog 165 #[ndVal n] w fun r w' => r = .returned (.bool (!NP.pathL n.path)) ∧ Below w.heap.size w w' := by
  obtain ⟨q, k, d, m⟩ := n
  obtain ⟨Q, hQ, hQd⟩ := txt_of q
  obtain ⟨D, hD, _⟩ := txt_of d
  unfold ndVal
  simp only at hn ⊢
  rw [hQ, hD]
  obtain ⟨b, hb⟩ : ∃ b, NP.pathL q = b := ⟨_, rfl⟩
  have CO : Hid (∀ W, Below w.heap.size w W → Calls Tryz.prog 42 #[.string Q] W fun e w' => e = .returned (.bool b) ∧ Below W.heap.size W w') := Lib.hid (fun W hW => by
    rw [← hb]
    exact path_txt Q q W (he.below hW) hQd hn)
  have B0 : Hid (Below w.heap.size w (w.alloc (.cells #[.string Q, .int .i64 k, .string D, .int .i64 m] 45))) := Lib.hid ((Below.refl _ _).alloc (Nat.le_refl _) _)
  rw [hb]
  clear hQ hQd hD hb hn he
  go_enter Tryz.func165, Tryz.ntmps165
  repeat (first | (go_at_call 42; refine (CO.out _ B0.out).mono ?_; rintro r w1 ⟨rfl, hb⟩; simp only []; have B1 := Lib.hid (Below.trans B0.out (hb.mono B0.out.size)); clear hb) | go_skip | go_guarded | go_step | go_upon)
  go_ret
  exact ⟨rfl, B1.out⟩
end TG
end Go.Proofs.YtfbhbadcgecgmaaGreatDoor
