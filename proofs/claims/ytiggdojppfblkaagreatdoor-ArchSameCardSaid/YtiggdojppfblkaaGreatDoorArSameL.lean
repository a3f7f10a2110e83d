/- Layer 9: the walk of ArchSame. -/
import Derived.Test.YtiggdojppfblkaaGreatDoorArBare
import Derived.Test.YtiggdojppfblkaaGreatDoorArAw
namespace Go.Proofs.YtiggdojppfblkaaGreatDoor
open Go.RowKit Go.Lib Go.BigFrame
namespace AL
open OM TP TM TG TW TR AP AR AD AB

/-- Two unlike data of one fingerprint. -/
def clashB (x y : Nd) : Bool := !(decide (x.data = y.data)) && (decide ((bareF x).data = (bareF y).data) && (!(decide (x.kind = 2)) && !(decide (y.kind = 2))))
theorem bare_ne {t u : List Nd} (h : t ≠ u) (hc : ∀ (i k : Nat) x y, t[i]? = some x → u[k]? = some y → clashB x y = false) : t.map bareF ≠ u.map bareF := fun e => by
  apply h
  have hl : t.length = u.length := by have := congrArg List.length e; rwa [List.length_map, List.length_map] at this
  apply List.ext_getElem? 
  intro i
  by_cases hi : i < t.length
  · obtain ⟨x, hx⟩ : ∃ x, t[i]? = some x := ⟨_, List.getElem?_eq_getElem hi⟩
    obtain ⟨y, hy⟩ : ∃ y, u[i]? = some y := ⟨_, List.getElem?_eq_getElem (by omega)⟩
    have e1 := congrArg (fun l => l[i]?) e
    simp only [List.getElem?_map, hx, hy, Option.map_some, Option.some.injEq] at e1
    have hcl := hc i i x y hx hy
    rw [hx, hy]
    congr 1
    obtain ⟨p, k, d, m⟩ := x
    obtain ⟨p', k', d', m'⟩ := y
    unfold bareF at e1
    by_cases h1 : k = 2
    · by_cases h2 : k' = 2
      · simpa [h1, h2] using e1
      · simp only [h1, h2, ↓reduceIte, Nd.mk.injEq] at e1
        first
          | exact absurd e1.2.1.symm h2
          | exact absurd e1.2.1 h1
          | exact absurd (e1.2.1.trans h2) h1
          | exact absurd (e1.2.1.symm.trans h1) h2
          | exact e1.2.1.elim
          | omega
    · by_cases h2 : k' = 2
      · simp only [h1, h2, ↓reduceIte, Nd.mk.injEq] at e1
        first
          | exact absurd e1.2.1.symm h2
          | exact absurd e1.2.1 h1
          | exact absurd (e1.2.1.trans h2) h1
          | exact absurd (e1.2.1.symm.trans h1) h2
          | exact e1.2.1.elim
          | omega
      · unfold clashB bareF at hcl
        simp only [h1, h2, ↓reduceIte, Nd.mk.injEq] at e1 hcl
        obtain ⟨e2, e3, e4, e5⟩ := e1
        simp only [e4, decide_true, decide_false, Bool.not_false, Bool.and_true, Bool.not_eq_false', decide_eq_true_eq, Bool.and_self] at hcl
        simp [e2, e3, e5, hcl]
  · rw [List.getElem?_eq_none (by omega), List.getElem?_eq_none (by omega)]
structure FourL (W : World) (at_ ut aa ub : Option Addr) (ts us : List Nd) : Prop where
  t : LayN W at_ ts
  u : LayN W ut us
  a : LayN W aa (ts.map bareF)
  b : LayN W ub (us.map bareF)
theorem FourL.below {W W' : World} {at_ ut aa ub : Option Addr} {ts us : List Nd} (h : FourL W at_ ut aa ub ts us) (hb : Below W.heap.size W W') : FourL W' at_ ut aa ub ts us := ⟨h.t.below hb, h.u.below hb, h.a.below hb, h.b.below hb⟩
set_option maxRecDepth 100000 in
set_option maxHeartbeats 12800000 in
theorem same_law (ao : Option Addr) (ca : Nat) (ts : List Nd) (bo : Option Addr) (cb : Nat) (us : List Nd) (w : World) (he : Env w) (hq : HQ.Env w) (h : Wide w ao ca ts) (k : Wide w bo cb us) :
    Calls Tryz.prog 7 #[.slice ao ts.length ca, .slice bo us.length cb] w fun r w' => r = .returned (.bool true) ∧ Below w.heap.size w w' := by
  have CW := Lib.hid (awake_any w he)
  have CA : Hid (∀ W, Below w.heap.size w W → Calls Tryz.prog 10 #[.slice ao ts.length ca] W (BarePost ts W)) := Lib.hid (fun W hW => bare_any ao ca ts W (he.below hW).nf (HQ.Env.below hq hW) (h.below hW))
  have CB : Hid (∀ W, Below w.heap.size w W → Calls Tryz.prog 10 #[.slice bo us.length cb] W (BarePost us W)) := Lib.hid (fun W hW => bare_any bo cb us W (he.below hW).nf (HQ.Env.below hq hW) (k.below hW))
  have CS : Hid (∀ W, Below w.heap.size w W → Calls Tryz.prog 24 #[.slice ao ts.length ca, .slice bo us.length cb] W fun r w' => r = .returned (.bool (decide (ts = us))) ∧ Below W.heap.size W w') := Lib.hid (fun W hW => same_any ao bo ca cb ts us W (h.lay.below hW) (k.lay.below hW) h.max k.max)
  have HLt := Lib.hid h.lay
  have HLu := Lib.hid k.lay
  unfold BarePost at CA CB
  obtain ⟨n, hn⟩ : ∃ n, ts.length = n := ⟨_, rfl⟩
  obtain ⟨m, hm⟩ : ∃ n, us.length = n := ⟨_, rfl⟩
  have HN := Lib.hid hn
  have HM := Lib.hid hm
  have HT : Hid (treeB ts = true → n ≤ 1000) := Lib.hid (fun e => by rw [← hn]; exact ((tree_iff ts).1 e).len)
  have HU : Hid (treeB us = true → m ≤ 1000) := Lib.hid (fun e => by rw [← hm]; exact ((tree_iff us).1 e).len)
  rw [hn] at CA CS
  rw [hm] at CB CS
  rw [hn, hm]
  clear h k he hq hn hm
  cases ht : treeB ts with
  | false =>
    rw [ht] at CA
    simp only [Bool.false_eq_true, ↓reduceIte] at CA
    cases hu : treeB us with
    | false =>
      rw [hu] at CB
      simp only [Bool.false_eq_true, ↓reduceIte] at CB
      clear ht hu
      go_enter Tryz.func7, Tryz.ntmps7
      repeat (first | (go_at_call 9; fail) | go_skip | go_guarded | go_step | go_upon)
      refine CW.out.mono ?_
      rintro r w1 ⟨rfl, hb⟩
      simp only []
      have B1 := Lib.hid hb
      clear hb
      repeat (first | (go_at_call 10; fail) | go_skip | go_guarded | go_step | go_upon)
      refine (CA.out _ B1.out).mono ?_
      rintro r w2 ⟨rfl, hb⟩
      simp only []
      have B2 := Lib.hid (B1.out.trans (hb.mono B1.out.size))
      clear hb
      repeat (first | (go_at_call 10; fail) | go_skip | go_guarded | go_step | go_upon)
      refine (CB.out _ B2.out).mono ?_
      rintro r w3 ⟨rfl, hb⟩
      simp only []
      have B3 := Lib.hid (B2.out.trans (hb.mono B2.out.size))
      clear hb
      repeat (first | go_skip | go_guarded | go_step | go_upon)
      go_ret
      exact ⟨by first | rfl | simp, B3.out⟩
    | true =>
      rw [hu] at CB
      simp only [↓reduceIte] at CB
      clear ht hu
      go_enter Tryz.func7, Tryz.ntmps7
      repeat (first | (go_at_call 9; fail) | go_skip | go_guarded | go_step | go_upon)
      refine CW.out.mono ?_
      rintro r w1 ⟨rfl, hb⟩
      simp only []
      have B1 := Lib.hid hb
      clear hb
      repeat (first | (go_at_call 10; fail) | go_skip | go_guarded | go_step | go_upon)
      refine (CA.out _ B1.out).mono ?_
      rintro r w2 ⟨rfl, hb⟩
      simp only []
      have B2 := Lib.hid (B1.out.trans (hb.mono B1.out.size))
      clear hb
      repeat (first | (go_at_call 10; fail) | go_skip | go_guarded | go_step | go_upon)
      refine (CB.out _ B2.out).mono ?_
      rintro r w3 ⟨vb, rfl, hob, hb⟩
      simp only []
      rw [← HM.out, ← List.length_map (f := bareF)] at hob
      obtain ⟨ub, kb, rfl, hlb⟩ := lay_own hob
      rw [List.length_map, HM.out]
      have HLb := Lib.hid hlb
      clear hob hlb
      have B3 := Lib.hid (B2.out.trans (hb.mono B2.out.size))
      clear hb
      repeat (first | go_skip | go_guarded | go_step | go_upon)
      go_ret
      exact ⟨by first | rfl | simp, B3.out⟩
  | true =>
    rw [ht] at CA
    simp only [↓reduceIte] at CA
    have hn1 := HT.out ht
    have hnz : (n : Int) ≤ 1000 := by omega
    cases hu : treeB us with
    | false =>
      rw [hu] at CB
      simp only [Bool.false_eq_true, ↓reduceIte] at CB
      clear ht hu
      by_cases hn0 : n = 0
      · subst hn0
        go_enter Tryz.func7, Tryz.ntmps7
        repeat (first | (go_at_call 9; fail) | go_skip | go_guarded | go_step | go_upon)
        refine CW.out.mono ?_
        rintro r w1 ⟨rfl, hb⟩
        simp only []
        have B1 := Lib.hid hb
        clear hb
        repeat (first | (go_at_call 10; fail) | go_skip | go_guarded | go_step | go_upon)
        refine (CA.out _ B1.out).mono ?_
        rintro r w2 ⟨va, rfl, hoa, hb⟩
        simp only []
        rw [← HN.out, ← List.length_map (f := bareF)] at hoa
        obtain ⟨aa, ka, rfl, hla⟩ := lay_own hoa
        rw [List.length_map, HN.out]
        have HLa := Lib.hid hla
        clear hoa hla
        have B2 := Lib.hid (B1.out.trans (hb.mono B1.out.size))
        clear hb
        repeat (first | (go_at_call 10; fail) | go_skip | go_guarded | go_step | go_upon)
        refine (CB.out _ B2.out).mono ?_
        rintro r w3 ⟨rfl, hb⟩
        simp only []
        have B3 := Lib.hid (B2.out.trans (hb.mono B2.out.size))
        have HLa3 := Lib.hid (HLa.out.below hb)
        clear hb
        repeat (first | go_skip | go_guarded | go_step | go_upon)
        go_ret
        exact ⟨by first | rfl | simp, B3.out⟩
      · have hn0z : ((n : Int) == 0) = false := by simpa using hn0
        go_enter Tryz.func7, Tryz.ntmps7
        repeat (first | (go_at_call 9; fail) | go_skip | go_guarded | go_step | go_upon)
        refine CW.out.mono ?_
        rintro r w1 ⟨rfl, hb⟩
        simp only []
        have B1 := Lib.hid hb
        clear hb
        repeat (first | (go_at_call 10; fail) | go_skip | go_guarded | go_step | go_upon)
        refine (CA.out _ B1.out).mono ?_
        rintro r w2 ⟨va, rfl, hoa, hb⟩
        simp only []
        rw [← HN.out, ← List.length_map (f := bareF)] at hoa
        obtain ⟨aa, ka, rfl, hla⟩ := lay_own hoa
        rw [List.length_map, HN.out]
        have HLa := Lib.hid hla
        clear hoa hla
        have B2 := Lib.hid (B1.out.trans (hb.mono B1.out.size))
        clear hb
        repeat (first | (go_at_call 10; fail) | go_skip | go_guarded | go_step | go_upon)
        refine (CB.out _ B2.out).mono ?_
        rintro r w3 ⟨rfl, hb⟩
        simp only []
        have B3 := Lib.hid (B2.out.trans (hb.mono B2.out.size))
        have HLa3 := Lib.hid (HLa.out.below hb)
        clear hb
        repeat (first | go_skip | go_guarded | go_step | go_upon)
        go_ret
        exact ⟨by first | rfl | simp, B3.out⟩
    | true =>
      rw [hu] at CB
      simp only [↓reduceIte] at CB
      have hm1 := HU.out hu
      have hmz : (m : Int) ≤ 1000 := by omega
      clear ht hu
      have CS2 : Hid (∀ (aa ub : Option Addr) (ka kb : Nat) (W : World), LayN W aa (ts.map bareF) → LayN W ub (us.map bareF) → Calls Tryz.prog 24 #[.slice aa n ka, .slice ub m kb] W fun r w' => r = .returned (.bool (decide (ts.map bareF = us.map bareF))) ∧ Below W.heap.size W w') := Lib.hid (fun aa ub ka kb W h1 h2 => by
        have := same_any aa ub ka kb (ts.map bareF) (us.map bareF) W h1 h2 (by rw [List.length_map, HN.out]; unfold maxLen; omega) (by rw [List.length_map, HM.out]; unfold maxLen; omega)
        rw [List.length_map, List.length_map, HN.out, HM.out] at this
        exact this)
      by_cases hs : ts = us
      · rw [decide_eq_true hs] at CS
        have CS3 : Hid (decide (ts.map bareF = us.map bareF) = true) := Lib.hid (by rw [hs]; simp)
        rw [CS3.out] at CS2
        clear hs
        go_enter Tryz.func7, Tryz.ntmps7
        repeat (first | (go_at_call 9; fail) | go_skip | go_guarded | go_step | go_upon)
        refine CW.out.mono ?_
        rintro r w1 ⟨rfl, hb⟩
        simp only []
        have B1 := Lib.hid hb
        clear hb
        repeat (first | (go_at_call 10; fail) | go_skip | go_guarded | go_step | go_upon)
        refine (CA.out _ B1.out).mono ?_
        rintro r w2 ⟨va, rfl, hoa, hb⟩
        simp only []
        rw [← HN.out, ← List.length_map (f := bareF)] at hoa
        obtain ⟨aa, ka, rfl, hla⟩ := lay_own hoa
        rw [List.length_map, HN.out]
        have HLa := Lib.hid hla
        clear hoa hla
        have B2 := Lib.hid (B1.out.trans (hb.mono B1.out.size))
        clear hb
        repeat (first | (go_at_call 10; fail) | go_skip | go_guarded | go_step | go_upon)
        refine (CB.out _ B2.out).mono ?_
        rintro r w3 ⟨vb, rfl, hob, hb⟩
        simp only []
        rw [← HM.out, ← List.length_map (f := bareF)] at hob
        obtain ⟨ub, kb, rfl, hlb⟩ := lay_own hob
        rw [List.length_map, HM.out]
        have HLb := Lib.hid hlb
        clear hob hlb
        have B3 := Lib.hid (B2.out.trans (hb.mono B2.out.size))
        have HLa3 := Lib.hid (HLa.out.below hb)
        clear hb
        repeat (first | (go_at_call 24; fail) | go_skip | go_guarded | go_step | go_upon)
        refine (CS.out _ B3.out).mono ?_
        rintro r w4 ⟨rfl, hb⟩
        simp only []
        have B4 := Lib.hid (B3.out.trans (hb.mono B3.out.size))
        have HLa4 := Lib.hid (HLa3.out.below hb)
        have HLb4 := Lib.hid (HLb.out.below hb)
        clear hb
        repeat (first | (go_at_call 24; refine (CS2.out _ _ _ _ _ HLa4.out HLb4.out).mono ?_; rintro r w5 ⟨rfl, hb⟩; simp only []; have B5 := Lib.hid (B4.out.trans (hb.mono B4.out.size)); clear hb) | go_skip | go_guarded | go_step | go_upon)
        go_ret
        exact ⟨rfl, B5.out⟩
      · rw [decide_eq_false hs] at CS
        have HNE := Lib.hid hs
        clear hs
        go_enter Tryz.func7, Tryz.ntmps7
        repeat (first | (go_at_call 9; fail) | go_skip | go_guarded | go_step | go_upon)
        refine CW.out.mono ?_
        rintro r w1 ⟨rfl, hb⟩
        simp only []
        have B1 := Lib.hid hb
        clear hb
        repeat (first | (go_at_call 10; fail) | go_skip | go_guarded | go_step | go_upon)
        refine (CA.out _ B1.out).mono ?_
        rintro r w2 ⟨va, rfl, hoa, hb⟩
        simp only []
        rw [← HN.out, ← List.length_map (f := bareF)] at hoa
        obtain ⟨aa, ka, rfl, hla⟩ := lay_own hoa
        rw [List.length_map, HN.out]
        have HLa := Lib.hid hla
        clear hoa hla
        have B2 := Lib.hid (B1.out.trans (hb.mono B1.out.size))
        clear hb
        repeat (first | (go_at_call 10; fail) | go_skip | go_guarded | go_step | go_upon)
        refine (CB.out _ B2.out).mono ?_
        rintro r w3 ⟨vb, rfl, hob, hb⟩
        simp only []
        rw [← HM.out, ← List.length_map (f := bareF)] at hob
        obtain ⟨ub, kb, rfl, hlb⟩ := lay_own hob
        rw [List.length_map, HM.out]
        have HLb := Lib.hid hlb
        clear hob hlb
        have B3 := Lib.hid (B2.out.trans (hb.mono B2.out.size))
        have HLa3 := Lib.hid (HLa.out.below hb)
        clear hb
        repeat (first | (go_at_call 24; fail) | go_skip | go_guarded | go_step | go_upon)
        refine (CS.out _ B3.out).mono ?_
        rintro r w4 ⟨rfl, hb⟩
        simp only []
        have B4 := Lib.hid (B3.out.trans (hb.mono B3.out.size))
        have HLa4 := Lib.hid (HLa3.out.below hb)
        have HLb4 := Lib.hid (HLb.out.below hb)
        clear hb
        have F4 : Hid (FourL w4 ao bo aa ub ts us) := Lib.hid ⟨HLt.out.below B4.out, HLu.out.below B4.out, HLa4.out, HLb4.out⟩
        repeat (first | go_skip | go_guarded | go_step | go_upon)
        go_loopw [57] (fun s57 wr => ∃ i : Nat, s57 = .int .i64 i ∧ i ≤ n ∧ (∀ (j k : Nat) x y, j < i → ts[j]? = some x → us[k]? = some y → clashB x y = false) ∧ Below w4.heap.size w4 wr) (fun s57 _ => n - (Go.RowKit.intOf s57).toNat)
        case atStart => exact ⟨0, rfl, Nat.zero_le _, fun j k x y hj => absurd hj (by omega), Below.refl _ _⟩
        case round =>
          obtain ⟨i, rfl, hi, hcl, hb⟩ := hrel
          have HCl := Lib.hid hcl
          have HBr := Lib.hid hb
          clear hcl hb
          by_cases hlt : i < n
          · have hiz : (i : Int) < n := by omega
            obtain ⟨x, hx⟩ : ∃ x, ts[i]? = some x := ⟨ts[i]'(by rw [HN.out]; exact hlt), List.getElem?_eq_getElem _⟩
            have HX := Lib.hid hx
            have HLT := Lib.hid hlt
            clear hx hlt
            repeat (first | go_skip | go_guarded | go_step | go_upon)
            go_loopw [62] (fun s62 wq => ∃ k : Nat, s62 = .int .i64 k ∧ k ≤ m ∧ (∀ (j : Nat) y, j < k → us[j]? = some y → clashB x y = false) ∧ Below w4.heap.size w4 wq) (fun s62 _ => m - (Go.RowKit.intOf s62).toNat)
            case atStart => exact ⟨0, rfl, Nat.zero_le _, fun j y hj => absurd hj (by omega), HBr.out⟩
            case round =>
              obtain ⟨k, rfl, hk, hcl, hb⟩ := hrel
              have HCk := Lib.hid hcl
              have HBq := Lib.hid hb
              by_cases hlk : k < m
              · have hkz : (k : Int) < m := by omega
                obtain ⟨y, hy⟩ : ∃ y, us[k]? = some y := ⟨us[k]'(by rw [HM.out]; exact hlk), List.getElem?_eq_getElem _⟩
                obtain ⟨l1, l2, l3, l4⟩ := F4.out.below hb
                obtain ⟨g1, o1, rfl, _, hc1⟩ := l1 (by rw [HN.out]; omega)
                obtain ⟨g2, o2, rfl, _, hc2⟩ := l2 (by rw [HM.out]; omega)
                obtain ⟨g3, o3, rfl, _, hc3⟩ := l3 (by rw [List.length_map, HN.out]; omega)
                obtain ⟨g4, o4, rfl, _, hc4⟩ := l4 (by rw [List.length_map, HM.out]; omega)
                obtain ⟨-, x1, x2, -⟩ := hc1 i x HX.out
                obtain ⟨-, y1, y2, -⟩ := hc2 k y hy
                obtain ⟨-, -, a2, -⟩ := hc3 i (bareF x) (by rw [List.getElem?_map, HX.out]; rfl)
                obtain ⟨-, -, b2, -⟩ := hc4 k (bareF y) (by rw [List.getElem?_map, hy]; rfl)
                unfold txt at x2 y2 a2 b2
                obtain ⟨S1, e1⟩ : ∃ S : ByteArray, ⟨x.data.toArray⟩ = S := ⟨_, rfl⟩
                obtain ⟨S2, e2⟩ : ∃ S : ByteArray, ⟨y.data.toArray⟩ = S := ⟨_, rfl⟩
                obtain ⟨S3, e3⟩ : ∃ S : ByteArray, ⟨(bareF x).data.toArray⟩ = S := ⟨_, rfl⟩
                obtain ⟨S4, e4⟩ : ∃ S : ByteArray, ⟨(bareF y).data.toArray⟩ = S := ⟨_, rfl⟩
                have q1 : (S1.toList == S2.toList) = decide (x.data = y.data) := by rw [← e1, ← e2]; exact str_eq _ _
                have q2 : (S3.toList == S4.toList) = decide ((bareF x).data = (bareF y).data) := by rw [← e3, ← e4]; exact str_eq _ _
                rw [e1] at x2
                rw [e2] at y2
                rw [e3] at a2
                rw [e4] at b2
                obtain ⟨kx, ekx⟩ : ∃ z, x.kind = z := ⟨_, rfl⟩
                obtain ⟨ky, eky⟩ : ∃ z, y.kind = z := ⟨_, rfl⟩
                rw [ekx] at x1
                rw [eky] at y1
                have q3 : (kx == 2) = decide (x.kind = 2) := by rw [ekx, Bool.eq_iff_iff]; simp
                have q4 : (ky == 2) = decide (y.kind = 2) := by rw [eky, Bool.eq_iff_iff]; simp
                have q3n : (kx != 2) = !decide (x.kind = 2) := by rw [bne, q3]
                have q4n : (ky != 2) = !decide (y.kind = 2) := by rw [bne, q4]
                obtain ⟨b1, hb1⟩ : ∃ z, decide (x.data = y.data) = z := ⟨_, rfl⟩
                obtain ⟨b2', hb2⟩ : ∃ z, decide ((bareF x).data = (bareF y).data) = z := ⟨_, rfl⟩
                obtain ⟨b3, hb3⟩ : ∃ z, decide (x.kind = 2) = z := ⟨_, rfl⟩
                obtain ⟨b4, hb4⟩ : ∃ z, decide (y.kind = 2) = z := ⟨_, rfl⟩
                have HC : Hid (clashB x y = (!b1 && (b2' && (!b3 && !b4)))) := Lib.hid (by unfold clashB; rw [hb1, hb2, hb3, hb4])
                rw [hb1] at q1
                rw [hb2] at q2
                rw [hb3] at q3 q3n
                rw [hb4] at q4 q4n
                have HY := Lib.hid hy
                have fx1 := cell_regrown x1
                have fx2 := cell_regrown x2
                have fy1 := cell_regrown y1
                have fy2 := cell_regrown y2
                have fa2 := cell_regrown a2
                have fb2 := cell_regrown b2
                clear hcl hb hy l1 l2 l3 l4 hc1 hc2 hc3 hc4 e1 e2 e3 e4 ekx eky hb1 hb2 hb3 hb4 hlk q3 q4
                have HNext : Hid (clashB x y = false → ∀ (j : Nat) y', j < k + 1 → us[j]? = some y' → clashB x y' = false) := Lib.hid (fun hno j y' hj hy' => by
                  rcases Nat.lt_or_ge j k with h1 | h1
                  · exact HCk.out j y' h1 hy'
                  · have : j = k := by omega
                    subst this
                    rw [HY.out] at hy'
                    injection hy' with hy'
                    rw [← hy']
                    exact hno)
                cases b1 with
                | true =>
                  repeat (first | go_skip | go_guarded | go_step | go_upon)
                  with_reducible refine wp_region_quiet_below (by kernel_rfl) (by kernel_rfl) ?_
                  repeat (go_big_quiet_step (fail))
                  refine wpQuiet_nil ?_
                  intro _ hw'
                  obtain ⟨⟨dq, osq⟩, hw''⟩ := hw'
                  subst hw''
                  have W5 := Lib.hid (HBq.out.trans ((below_regrown _ dq osq).mono HBq.out.size))
                  clear fx1 fx2 fy1 fy2 fa2 fb2 x1 x2 y1 y2 a2 b2
                  generalize Go.Sort.grow (redrawn _ dq) osq = w5 at W5 ⊢
                  repeat (first | go_skip | go_guarded | go_step | go_upon)
                  exact ⟨⟨k + 1, by go_num, by omega, HNext.out (by rw [HC.out]; rfl), W5.out⟩, by simp [Go.RowKit.intOf]; omega⟩
                | false =>
                  cases b2' with
                  | false =>
                    repeat (first | go_skip | go_guarded | go_step | go_upon)
                    with_reducible refine wp_region_quiet_below (by kernel_rfl) (by kernel_rfl) ?_
                    repeat (go_big_quiet_step (fail))
                    refine wpQuiet_nil ?_
                    intro _ hw'
                    obtain ⟨⟨dq, osq⟩, hw''⟩ := hw'
                    subst hw''
                    have W5 := Lib.hid (HBq.out.trans ((below_regrown _ dq osq).mono HBq.out.size))
                    clear fx1 fx2 fy1 fy2 fa2 fb2 x1 x2 y1 y2 a2 b2
                    generalize Go.Sort.grow (redrawn _ dq) osq = w5 at W5 ⊢
                    repeat (first | go_skip | go_guarded | go_step | go_upon)
                    exact ⟨⟨k + 1, by go_num, by omega, HNext.out (by rw [HC.out]; rfl), W5.out⟩, by simp [Go.RowKit.intOf]; omega⟩
                  | true =>
                    cases b3 with
                    | true =>
                      repeat (first | go_skip | go_guarded | go_step | go_upon)
                      with_reducible refine wp_region_quiet_below (by kernel_rfl) (by kernel_rfl) ?_
                      repeat (go_big_quiet_step (fail))
                      refine wpQuiet_nil ?_
                      intro _ hw'
                      obtain ⟨⟨dq, osq⟩, hw''⟩ := hw'
                      subst hw''
                      have W5 := Lib.hid (HBq.out.trans ((below_regrown _ dq osq).mono HBq.out.size))
                      clear fx1 fx2 fy1 fy2 fa2 fb2 x1 x2 y1 y2 a2 b2
                      generalize Go.Sort.grow (redrawn _ dq) osq = w5 at W5 ⊢
                      repeat (first | go_skip | go_guarded | go_step | go_upon)
                      exact ⟨⟨k + 1, by go_num, by omega, HNext.out (by rw [HC.out]; rfl), W5.out⟩, by simp [Go.RowKit.intOf]; omega⟩
                    | false =>
                      cases b4 with
                      | true =>
                        repeat (first | go_skip | go_guarded | go_step | go_upon)
                        with_reducible refine wp_region_quiet_below (by kernel_rfl) (by kernel_rfl) ?_
                        repeat (go_big_quiet_step (fail))
                        refine wpQuiet_nil ?_
                        intro _ hw'
                        obtain ⟨⟨dq, osq⟩, hw''⟩ := hw'
                        subst hw''
                        have W5 := Lib.hid (HBq.out.trans ((below_regrown _ dq osq).mono HBq.out.size))
                        clear fx1 fx2 fy1 fy2 fa2 fb2 x1 x2 y1 y2 a2 b2
                        generalize Go.Sort.grow (redrawn _ dq) osq = w5 at W5 ⊢
                        repeat (first | go_skip | go_guarded | go_step | go_upon)
                        exact ⟨⟨k + 1, by go_num, by omega, HNext.out (by rw [HC.out]; rfl), W5.out⟩, by simp [Go.RowKit.intOf]; omega⟩
                      | false =>
                        repeat (first | go_skip | go_guarded | go_step | go_upon)
                        with_reducible refine wp_region_quiet_below (by kernel_rfl) (by kernel_rfl) ?_
                        repeat (go_big_quiet_step (fail))
                        refine wpQuiet_nil ?_
                        intro _ hw'
                        obtain ⟨⟨dq, osq⟩, hw''⟩ := hw'
                        subst hw''
                        have W5 := Lib.hid (HBq.out.trans ((below_regrown _ dq osq).mono HBq.out.size))
                        clear fx1 fx2 fy1 fy2 fa2 fb2 x1 x2 y1 y2 a2 b2
                        generalize Go.Sort.grow (redrawn _ dq) osq = w5 at W5 ⊢
                        repeat (first | go_skip | go_guarded | go_step | go_upon)
                        go_ret
                        exact ⟨rfl, B4.out.trans (W5.out.mono B4.out.size)⟩
              · have hkz : ¬ (k : Int) < m := by omega
                have HCk2 : Hid (∀ (j k : Nat) x' y, j < i + 1 → ts[j]? = some x' → us[k]? = some y → clashB x' y = false) := Lib.hid (fun j k' x' y hj hx' hy => by
                  rcases Nat.lt_or_ge j i with h1 | h1
                  · exact HCl.out j k' x' y h1 hx' hy
                  · have : j = i := by omega
                    subst this
                    rw [HX.out] at hx'
                    injection hx' with hx'
                    subst hx'
                    exact HCk.out k' y (by have := (List.getElem?_eq_some_iff.1 hy).1; rw [HM.out] at this; omega) hy)
                clear hcl hb hlk
                repeat (first | go_skip | go_guarded | go_step | go_upon)
                exact ⟨⟨i + 1, by go_num, by have := HLT.out; omega, HCk2.out, HBq.out⟩, by have := HLT.out; simp [Go.RowKit.intOf]; omega⟩
          · have hiz : ¬ (i : Int) < n := by omega
            have CS3 : Hid (decide (ts.map bareF = us.map bareF) = false) := Lib.hid (decide_eq_false (bare_ne HNE.out (fun i' k x y hx hy => HCl.out i' k x y (by have := (List.getElem?_eq_some_iff.1 hx).1; rw [HN.out] at this; omega) hx hy)))
            rw [CS3.out] at CS2
            have F5 := Lib.hid (F4.out.below HBr.out)
            have B5 := Lib.hid (B4.out.trans (HBr.out.mono B4.out.size))
            clear hlt
            repeat (first | (go_at_call 24; refine (CS2.out _ _ _ _ _ F5.out.a F5.out.b).mono ?_; rintro r w5 ⟨rfl, hb⟩; simp only []; have B6 := Lib.hid (B5.out.trans (hb.mono B5.out.size)); clear hb) | go_skip | go_guarded | go_step | go_upon)
            go_ret
            exact ⟨rfl, B6.out⟩
end AL
end Go.Proofs.YtiggdojppfblkaaGreatDoor
