/- Layer 12: the contract of a list's within (cut of stage 6). -/
import Derived.Test.YtmpmmebmhffaeaaGreatDoorQArMake
set_option linter.all false
set_option maxRecDepth 100000
set_option maxHeartbeats 25600000
namespace Go.Proofs.YtmpmmebmhffaeaaGreatDoor
section
open Go.RowKit Go.Lib
namespace NI
open NF

theorem cut_any (s p : ByteArray) (w : World) :
    Calls Tryz.prog 83 #[.string s, .string p] w fun e w' => ∃ t : ByteArray, e = .returned (.tuple #[.string t, .bool (Lib.hasPrefix s.data.toList p.data.toList)]) ∧ t.data.toList = Lib.trimPrefix s.data.toList p.data.toList ∧ w = w' := by
  refine (Tryz.strings_CutPrefix s p w).mono ?_
  rintro e w' ⟨rfl, rfl⟩
  exact ⟨_, rfl, by simp, rfl⟩

theorem within_no {p q : List UInt8} (h : NP.pathL p = false) : NP.withinL p q = false := by unfold NP.withinL; rw [h]; rfl
theorem within_pre {p q : List UInt8} (h : Lib.hasPrefix p q = false) : NP.withinL p q = false := by unfold NP.withinL; rw [h]; simp
theorem within_yes {p q t : List UInt8} (h1 : NP.pathL p = true) (h2 : Lib.hasPrefix p q = true) (ht : t = Lib.trimPrefix p q) : NP.withinL p q = NP.restOk q t := by
  unfold NP.withinL
  rw [h1, h2, ht]
  unfold Lib.trimPrefix
  rw [if_pos h2]
  simp

set_option maxHeartbeats 800000 in
theorem within_any (p q : ByteArray) (w : World) (he : Env w) (hp : p.size ≤ maxLen) :
    Calls Tryz.prog 63 #[.string p, .string q] w fun e w' => e = .returned (.bool (NP.withinL p.data.toList q.data.toList)) ∧ Below w.heap.size w w' := by
  have cP := path_any p w he hp
  unfold maxLen at hp
  go_enter Tryz.func63, Tryz.ntmps63
  go_wp2_with fail
  refine cP.mono ?_
  rintro e w1 ⟨rfl, hb⟩
  have Hb := Lib.hid hb
  clear hb cP he
  cases hv : NP.pathL p.data.toList
  · have H := Lib.hid (within_no (q := q.data.toList) hv)
    clear hv
    go_wp2
    go_ret
    exact ⟨by rw [H.out]; rfl, Hb.out⟩
  · have Hv := Lib.hid hv
    clear hv
    have cC := cut_any p q w1
    go_wp2_with fail
    refine cC.mono ?_
    rintro e w2 ⟨t, rfl, ht, rfl⟩
    have Ht := Lib.hid ht
    clear cC ht
    cases hh : Lib.hasPrefix p.data.toList q.data.toList
    · have H := Lib.hid (within_pre hh)
      clear hh
      go_wp2
      go_ret
      exact ⟨by rw [H.out]; rfl, Hb.out⟩
    · have H := Lib.hid (within_yes Hv.out hh Ht.out)
      clear hh
      by_cases hq0 : q.toList = []
      · have Hq0 := Lib.hid hq0
        have hq1 : q.toList.isEmpty = true := by rw [hq0]; rfl
        clear hq0
        go_wp2
        go_ret
        refine ⟨?_, Hb.out⟩
        have e : q.data.toList = [] := by rw [← Lib.toList_data]; exact Hq0.out
        rw [H.out]
        unfold NP.restOk
        rw [e]
        rfl
      · have Hq0 := Lib.hid hq0
        have hq1 : q.toList.isEmpty = false := by simpa using hq0
        clear hq0
        by_cases ht0 : t.toList = []
        · have Ht0 := Lib.hid ht0
          have ht1 : t.toList.isEmpty = true := by rw [ht0]; rfl
          clear ht0
          go_wp2
          go_ret
          refine ⟨?_, Hb.out⟩
          have e : t.data.toList = [] := by rw [← Lib.toList_data]; exact Ht0.out
          rw [H.out]
          unfold NP.restOk
          rw [e]
          simp
        · have Ht0 := Lib.hid ht0
          have ht1 : t.toList.isEmpty = false := by simpa using ht0
          have hz : 0 < t.size := by
            rw [Lib.size_eq, ← Lib.toList_data]
            exact List.length_pos_iff.2 ht0
          have hzi : (0 : Int) < t.size := by omega
          clear ht0
          have Hh : Hid (t.data.toList.head? = some t[0]) := Lib.hid (by rw [List.head?_eq_getElem?]; exact Lib.data_getElem? t 0 hz)
          have Hfin : Hid (NP.restOk q.data.toList t.data.toList = (((t[0].toNat : Nat) : Int) == 47)) := Lib.hid (by
            unfold NP.restOk
            have e1 : q.data.toList ≠ [] := by rw [← Lib.toList_data]; exact Hq0.out
            have e2 : t.data.toList ≠ [] := by rw [← Lib.toList_data]; exact Ht0.out
            rw [Hh.out, decide_eq_false e1, decide_eq_false e2, Bool.false_or, Bool.false_or, Bool.eq_iff_iff]
            simp only [decide_eq_true_eq, Option.some.injEq, beq_iff_eq]
            constructor
            · intro h; rw [h]; rfl
            · intro h; apply UInt8.toNat_inj.1; show _ = 47; omega)
          go_wp2
          go_ret
          exact ⟨by rw [H.out, Hfin.out]; rfl, Hb.out⟩

/- Join -/
end NI
end
open Go.RowKit Go.Lib Go.BigFrame
namespace TG
open OM TP TM

theorem within_txt (S T : ByteArray) (p q : List UInt8) (w : World) (he : NF.Env w) (hS : S.data.toList = p) (hT : T.data.toList = q) (h : p.length ≤ 1048576) :
    Calls Tryz.prog 63 #[.string S, .string T] w fun e w' => e = .returned (.bool (NP.withinL p q)) ∧ Below w.heap.size w w' := by
  subst hS hT
  exact NI.within_any S T w he (by rw [Lib.size_eq]; unfold maxLen; omega)
set_option maxRecDepth 100000 in
set_option maxHeartbeats 1600000 in
theorem wc_any (bl bf bp : Nat) (W : World) (he : NF.Env W) (ao : Option Addr) (cap : Nat) (ts : List Nd) (p : List UInt8) (f i : Nat) (x : Nd)
    (hl : W.cell? ⟨bl, 0, none⟩ = some (.slice ao ts.length cap)) (hf : W.cell? ⟨bf, 0, none⟩ = some (.int .i64 f)) (hp : W.cell? ⟨bp, 0, none⟩ = some (txt p))
    (h : LayN W ao ts) (hs : SmallG ts) (hlen : ts.length ≤ 1000) (hx : ts[f + i]? = some x) :
    Calls Tryz.prog 62 #[.int .i64 i, .pointer (some ⟨bl, 0, none⟩), .pointer (some ⟨bf, 0, none⟩), .pointer (some ⟨bp, 0, none⟩)] W fun r w' => r = .returned (.bool (!NP.withinL x.path p)) ∧ Below W.heap.size W w' := by
  obtain ⟨n, hn⟩ : ∃ n, ts.length = n := ⟨_, rfl⟩
  obtain ⟨m, hm⟩ : ∃ m, f + i = m := ⟨_, rfl⟩
  have hmz : (f : Int) + (i : Int) = m := by omega
  rw [hm] at hx
  have hml := (List.getElem?_eq_some_iff.1 hx).1
  rw [hn] at hl hlen hml
  have hmn : (m : Int) < n := by omega
  obtain ⟨g, o, rfl, hg, hc⟩ := h (by omega)
  obtain ⟨X, hX, hXd⟩ := txt_of x.path
  obtain ⟨S, hS, hSd⟩ := txt_of p
  obtain ⟨b, hb⟩ : ∃ b, NP.withinL x.path p = b := ⟨_, rfl⟩
  have c0 := (hc m x hx).p
  rw [hX] at c0
  rw [hS] at hp
  have hmem := List.mem_of_getElem? hx
  have D := Lib.hid (reg_g (w := W) (f := 63) (args := #[.string X, .string S]) (v := .bool b) (fun W' hW => by
    have := within_txt X S x.path p W' (he.below hW) hXd hSd (hs x hmem).1
    rw [hb] at this
    exact this))
  have fl := cell_regrown hl
  have ff := cell_regrown hf
  have fp := cell_regrown hp
  have f0 := cell_regrown c0
  rw [hb]
  clear hb hX hXd hS hSd hmem hs hc hx h hn hm he hml
  go_enter Tryz.func62, Tryz.ntmps62
  repeat (first | go_skip | go_guarded | go_step | go_upon)
  with_reducible refine wp_region_quiet_below (by kernel_rfl) (by kernel_rfl) ?_
  repeat (go_big_quiet_step (first | (go_at_call 63; exact D.out _ _)))
  refine wpQuiet_nil ?_
  intro _ hw'
  obtain ⟨⟨dq, osq⟩, hw''⟩ := hw'
  subst hw''
  have W5 : Hid (Below W.heap.size W (Go.Sort.grow (redrawn W dq) osq)) := Lib.hid (below_regrown W dq osq)
  clear fl ff fp f0 hl hf hp c0
  generalize Go.Sort.grow (redrawn W dq) osq = w5 at W5 ⊢
  repeat (first | go_skip | go_guarded | go_step | go_upon)
  go_ret
  exact ⟨rfl, W5.out⟩
/-- What Search answers: how many are still false. -/
def SearchPost (q : Nat → Bool) (n : Nat) (w : World) (r : Ending) (w' : World) : Prop :=
  ∃ k : Nat, r = .returned (.int .i64 k) ∧ k ≤ n ∧ (∀ t, t < k → q t = false) ∧ (∀ t, k ≤ t → t < n → q t = true) ∧ Below w.heap.size w w'
set_option maxRecDepth 100000 in
set_option maxHeartbeats 1600000 in
theorem search_any (bl bf bp n : Nat) (q : Nat → Bool) (w : World) (hn : n ≤ 1000)
    (hf : ∀ W i, Below w.heap.size w W → i < n → Calls Tryz.prog 62 #[.int .i64 i, .pointer (some ⟨bl, 0, none⟩), .pointer (some ⟨bf, 0, none⟩), .pointer (some ⟨bp, 0, none⟩)] W fun r w' => r = .returned (.bool (q i)) ∧ Below W.heap.size W w')
    (hm : ∀ a b, a ≤ b → b < n → q a = true → q b = true) :
    Calls Tryz.prog 61 #[.int .i64 n, .func (.func 62) #[] #[.pointer (some ⟨bl, 0, none⟩), .pointer (some ⟨bf, 0, none⟩), .pointer (some ⟨bp, 0, none⟩)]] w (SearchPost q n w) := by
  have eg : ∀ args w, (callFunc 62 args).run Tryz.prog w = .ok (.enter 62 args) w := enters_of Tryz.func62 (by kernel_rfl) rfl
  have HF := Lib.hid hf
  have HM := Lib.hid hm
  clear hf hm
  go_enter Tryz.func61, Tryz.ntmps61
  repeat (first | go_skip | go_guarded | go_step | go_upon)
  go_loopw [5, 6] (fun s5 s6 wr => ∃ lo hi : Nat, s5 = .int .i64 lo ∧ s6 = .int .i64 hi ∧ lo ≤ hi ∧ hi ≤ n ∧ (∀ t, t < lo → q t = false) ∧ (∀ t, hi ≤ t → t < n → q t = true) ∧ Below w.heap.size w wr) (fun s5 s6 _ => (Go.RowKit.intOf s6).toNat - (Go.RowKit.intOf s5).toNat)
  case atStart => exact ⟨0, n, rfl, rfl, Nat.zero_le _, Nat.le_refl _, fun t h => by omega, fun t h1 h2 => by omega, Below.refl _ _⟩
  case round =>
    obtain ⟨lo, hi, rfl, rfl, hlh, hin, hA, hB, hb⟩ := hrel
    have HA := Lib.hid hA
    have HBe := Lib.hid hB
    have HB := Lib.hid hb
    have hbs := hb.size
    clear hA hB hb
    by_cases hlt : lo < hi
    · obtain ⟨m, hm⟩ : ∃ m, (lo + hi) / 2 = m := ⟨_, rfl⟩
      have hmz : ((lo : Int) + (hi : Int)) / 2 = (m : Int) := by omega
      have hmlo : lo ≤ m := by omega
      have hmhi : m < hi := by omega
      have hltz : (lo : Int) < hi := by omega
      have cx := HF.out wr m HB.out (by omega)
      cases hq : q m with
      | false =>
        rw [hq] at cx
        have CX := Lib.hid cx
        have HA2 : Hid (∀ t, t < m + 1 → q t = false) := Lib.hid (fun t ht => by
          cases h : q t with
          | false => rfl
          | true => rw [HM.out t m (by omega) (by omega) h] at hq; cases hq)
        clear hm hlt cx hq
        repeat (first | (go_at_fn 62; refine CX.out.mono ?_; rintro r w1 ⟨rfl, hb⟩; simp only []; have B1 := Lib.hid (Below.trans HB.out (hb.mono hbs)); clear hb) | go_skip | go_guarded | go_step | go_upon)
        exact ⟨⟨m + 1, hi, by go_num, rfl, by omega, by omega, HA2.out, HBe.out, B1.out⟩, by simp [Go.RowKit.intOf]; omega⟩
      | true =>
        rw [hq] at cx
        have CX := Lib.hid cx
        have HB2 : Hid (∀ t, m ≤ t → t < n → q t = true) := Lib.hid (fun t h1 h2 => HM.out m t h1 h2 hq)
        clear hm hlt cx hq
        repeat (first | (go_at_fn 62; refine CX.out.mono ?_; rintro r w1 ⟨rfl, hb⟩; simp only []; have B1 := Lib.hid (Below.trans HB.out (hb.mono hbs)); clear hb) | go_skip | go_guarded | go_step | go_upon)
        exact ⟨⟨lo, m, rfl, rfl, by omega, by omega, HA.out, HB2.out, B1.out⟩, by simp [Go.RowKit.intOf]; omega⟩
    · have hltz : ¬ (lo : Int) < hi := by omega
      obtain rfl : hi = lo := by omega
      clear hlt
      repeat (first | go_skip | go_guarded | go_step | go_upon)
      go_ret
      exact ⟨hi, rfl, hin, HA.out, HBe.out, HB.out⟩
/-- What within answers. -/
def CutPost (ts : List Nd) (p : List UInt8) (w : World) (r : Ending) (w' : World) : Prop :=
  ∃ i j : Nat, r = .returned (.tuple #[.int .i64 i, .int .i64 j]) ∧ Cut ts p i j ∧ Below w.heap.size w w'
theorem cut_of {ts : List Nd} {p : List UInt8} {i k : Nat} (hso : Sorted ts) (hpa : ∀ n ∈ ts, NP.pathL n.path = true) (hp : PlaceAt ts p i) (hk : k ≤ ts.length - i)
    (h1 : ∀ t, t < k → ∀ x, ts[i + t]? = some x → (!NP.withinL x.path p) = false) (h2 : ∀ t, k ≤ t → t < ts.length - i → ∀ x, ts[i + t]? = some x → (!NP.withinL x.path p) = true) : Cut ts p i (i + k) := by
  refine ⟨hp, by omega, by have := hp.le; omega, fun m x hm hm2 hx => ?_, fun m x hm hx => ?_⟩
  · have := h1 (m - i) (by omega) x (by rw [show i + (m - i) = m by omega]; exact hx)
    simpa using this
  · have hl := (List.getElem?_eq_some_iff.1 hx).1
    have := h2 (m - i) (by omega) (by omega) x (by rw [show i + (m - i) = m by omega]; exact hx)
    simpa using this
set_option maxRecDepth 100000 in
set_option maxHeartbeats 3200000 in
theorem within_any (ao : Option Addr) (cap : Nat) (ts : List Nd) (p : List UInt8) (w : World) (he : NF.Env w) (h : LayN w ao ts) (hso : Sorted ts) (hpa : ∀ n ∈ ts, NP.pathL n.path = true) (hs : SmallG ts) (hl : ts.length ≤ 1000) (hp : p.length ≤ 1048576) :
    Calls Tryz.prog 39 #[.slice ao ts.length cap, txt p] w (CutPost ts p w) := by
  have CP : Hid (∀ W, Below w.heap.size w W → Calls Tryz.prog 60 #[.slice ao ts.length cap, txt p] W (PlacePost ts p W)) := Lib.hid (fun W hW => place_any ao cap ts p W (h.below hW) hso hs hl hp)
  have HL := Lib.hid h
  have HS := Lib.hid hs
  have HSo := Lib.hid hso
  have HPa := Lib.hid hpa
  have HE := Lib.hid he
  obtain ⟨n, hn⟩ : ∃ n, ts.length = n := ⟨_, rfl⟩
  have HN := Lib.hid hn
  obtain ⟨S, hS, hSd⟩ := txt_of p
  have HTx := Lib.hid hS
  rw [hn, hS] at CP ⊢
  rw [hn] at hl
  have B0 : Hid (Below w.heap.size w ((w.alloc (.cells #[.slice ao n cap] 69)).alloc (.cells #[.string S] 9))) := Lib.hid (((Below.refl _ _).alloc (Nat.le_refl _) _).alloc (by simp) _)
  have L0 : Hid (((w.alloc (.cells #[.slice ao n cap] 69)).alloc (.cells #[.string S] 9)).cell? ⟨w.heap.size, 0, none⟩ = some (.slice ao n cap)) := Lib.hid (by
    have := cell_box w (.slice ao n cap) 69
    exact (((Below.refl (w.alloc (.cells #[.slice ao n cap] 69)).heap.size _).alloc (Nat.le_refl _) (.cells #[.string S] 9)).cell (p := ⟨w.heap.size, 0, none⟩) (by simp)).trans this)
  have P0 : Hid (((w.alloc (.cells #[.slice ao n cap] 69)).alloc (.cells #[.string S] 9)).cell? ⟨w.heap.size + 1, 0, none⟩ = some (.string S)) := Lib.hid (by
    have := cell_box (w.alloc (.cells #[.slice ao n cap] 69)) (.string S) 9
    rw [show (w.alloc (.cells #[.slice ao n cap] 69)).heap.size = w.heap.size + 1 by simp] at this
    exact this)
  clear h hso hpa hs hn hS hSd hp he
  go_enter Tryz.func39, Tryz.ntmps39
  repeat (first | (go_at_call 60; fail) | go_skip | go_guarded | go_step | go_upon)
  refine (CP.out _ B0.out).mono ?_
  rintro r w1 ⟨k, b, rfl, ⟨hpl, _⟩, hb⟩
  simp only []
  have B1 := Lib.hid (Below.trans B0.out (hb.mono B0.out.size))
  have l1 : w1.cell? ⟨w.heap.size, 0, none⟩ = some (.slice ao n cap) := (hb.cell (p := ⟨w.heap.size, 0, none⟩) (by simp; omega)).trans L0.out
  have p1 : w1.cell? ⟨w.heap.size + 1, 0, none⟩ = some (.string S) := (hb.cell (p := ⟨w.heap.size + 1, 0, none⟩) (by simp)).trans P0.out
  have hz1 : w.heap.size + 1 < w1.heap.size := by have := hb.size; simp at this; omega
  obtain ⟨w2, hw2⟩ : ∃ w2, w1.alloc (.cells #[.int .i64 (k : Int)] 3) = w2 := ⟨_, rfl⟩
  have b12 : Below w1.heap.size w1 w2 := by rw [← hw2]; exact (Below.refl _ _).alloc (Nat.le_refl _) _
  have hz2 : w2.heap.size = w1.heap.size + 1 := by rw [← hw2]; simp
  have f2 : w2.cell? ⟨w1.heap.size, 0, none⟩ = some (.int .i64 (k : Int)) := by rw [← hw2]; exact cell_box w1 _ _
  have l2 : w2.cell? ⟨w.heap.size, 0, none⟩ = some (.slice ao n cap) := (b12.cell (p := ⟨w.heap.size, 0, none⟩) (by show w.heap.size < _; omega)).trans l1
  have p2 : w2.cell? ⟨w.heap.size + 1, 0, none⟩ = some (.string S) := (b12.cell (p := ⟨w.heap.size + 1, 0, none⟩) hz1).trans p1
  have B2 := Lib.hid (Below.trans B1.out (b12.mono B1.out.size))
  have hkn : k ≤ n := by have := hpl.le; have := HN.out; omega
  obtain ⟨q, hq⟩ : ∃ q, n - k = q := ⟨_, rfl⟩
  have hqz : (n : Int) - (k : Int) = (q : Int) := by omega
  have HPl := Lib.hid hpl
  have CS : Hid (Calls Tryz.prog 61 #[.int .i64 q, .func (.func 62) #[] #[.pointer (some ⟨w.heap.size, 0, none⟩), .pointer (some ⟨w1.heap.size, 0, none⟩), .pointer (some ⟨w.heap.size + 1, 0, none⟩)]] w2 (SearchPost (fun i => match ts[k + i]? with | some x => !NP.withinL x.path p | none => true) q w2)) := Lib.hid (by
    refine search_any _ _ _ q _ w2 (by omega) (fun W i hW hi => ?_) (fun a b hab hbq ha => ?_)
    · obtain ⟨x, hx⟩ : ∃ x, ts[k + i]? = some x := ⟨ts[k + i]'(by rw [HN.out]; omega), List.getElem?_eq_getElem _⟩
      have := wc_any w.heap.size w1.heap.size (w.heap.size + 1) W (HE.out.below (Below.trans B2.out (hW.mono B2.out.size))) ao cap ts p k i x (by rw [HN.out]; exact (hW.cell (p := ⟨w.heap.size, 0, none⟩) (by show w.heap.size < _; omega)).trans l2) ((hW.cell (p := ⟨w1.heap.size, 0, none⟩) (by show w1.heap.size < _; omega)).trans f2) (by rw [HTx.out]; exact (hW.cell (p := ⟨w.heap.size + 1, 0, none⟩) (by show w.heap.size + 1 < _; omega)).trans p2) (HL.out.below (Below.trans B2.out (hW.mono B2.out.size))) HS.out (by rw [HN.out]; exact hl) hx
      rw [hx]
      exact this
    · obtain ⟨x, hx⟩ : ∃ x, ts[k + a]? = some x := ⟨ts[k + a]'(by rw [HN.out]; omega), List.getElem?_eq_getElem _⟩
      obtain ⟨y, hy⟩ : ∃ y, ts[k + b]? = some y := ⟨ts[k + b]'(by rw [HN.out]; omega), List.getElem?_eq_getElem _⟩
      rw [hx] at ha
      rw [hy]
      simp only [Bool.not_eq_true'] at ha ⊢
      rw [Bool.eq_false_iff]
      intro e
      rw [within_mono HSo.out HPa.out HPl.out (show k ≤ k + a by omega) (show k + a ≤ k + b by omega) hx hy e] at ha
      cases ha)
  have HZ := Lib.hid hz2
  have HF2 := Lib.hid f2
  have HQ := Lib.hid hq
  clear hpl hb p2 hz2 hq
  repeat (first | (go_at_call 61; fail) | go_skip | go_guarded | go_step | go_upon)
  refine CS.out.mono ?_
  rintro r w3 ⟨c, rfl, hc, h1, h2, hb⟩
  simp only []
  have hcut : Cut ts p k (k + c) := cut_of HSo.out HPa.out HPl.out (by have := HN.out; have := HQ.out; omega)
    (fun t ht x hx => by have := h1 t ht; simp only [hx] at this; exact this)
    (fun t h3 h4 x hx => by have := h2 t h3 (by have := HN.out; have := HQ.out; omega); simp only [hx] at this; exact this)
  have HC := Lib.hid hcut
  have B3 := Lib.hid (Below.trans B2.out (hb.mono B2.out.size))
  have f3 : w3.cell? ⟨w1.heap.size, 0, none⟩ = some (.int .i64 (k : Int)) := (hb.cell (p := ⟨w1.heap.size, 0, none⟩) (by show w1.heap.size < _; rw [HZ.out]; omega)).trans f2
  have hkc : k + c ≤ 1000 := by omega
  clear hc h1 h2 hb hcut f2 l1 p1 hw2 b12 l2
  repeat (first | go_skip | go_guarded | go_step | go_upon)
  go_quiet (fail)
  rename_i nq
  have B4 : Hid (Below w.heap.size w (w3.drewN nq)) := Lib.hid ⟨B3.out.os, B3.out.tape, B3.out.output, B3.out.size, B3.out.block⟩
  clear f3
  generalize w3.drewN nq = w4 at B4 ⊢
  repeat (first | go_skip | go_guarded | go_step | go_upon)
  go_ret2
  exact ⟨k, k + c, by simp, HC.out, B4.out⟩
theorem checkG_zero (ts : List Nd) : ((checkG ts : Nat) : Int) = 0 ↔ treeB ts = true := by
  unfold checkG
  cases treeB ts <;> simp
end TG
end Go.Proofs.YtmpmmebmhffaeaaGreatDoor
