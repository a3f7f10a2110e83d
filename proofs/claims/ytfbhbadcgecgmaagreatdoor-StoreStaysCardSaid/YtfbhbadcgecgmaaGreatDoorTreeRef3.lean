/- Layer 6: the contract of the document's Check. -/
import Derived.Test.YtfbhbadcgecgmaaGreatDoorTreeRef2
namespace Go.Proofs.YtfbhbadcgecgmaaGreatDoor
open Go.RowKit Go.Lib Go.BigFrame
namespace TP
open NP
theorem chain_snoc : ∀ (l : List Nd) (y x : Nd), chainB (l ++ [y, x]) = (chainB (l ++ [y]) && decide (ordL y.path x.path < 0))
  | [], y, x => by simp [chainB]
  | [a], y, x => by simp [chainB, Bool.and_assoc]
  | a :: b :: l, y, x => by
    have ih := chain_snoc (b :: l) y x
    simp only [List.cons_append] at ih ⊢
    rw [chainB, ih, chainB, Bool.and_assoc]
theorem chain_pre {a b : List Nd} (h : chainB (a ++ b) = true) : chainB a = true := (chain_iff a).2 ((List.pairwise_append.1 ((chain_iff (a ++ b)).1 h)).1)
theorem take_two {l : List Nd} {k : Nat} {y x : Nd} (h1 : l[k]? = some y) (h2 : l[k + 1]? = some x) : l.take (k + 2) = l.take k ++ [y, x] ∧ l.take (k + 1) = l.take k ++ [y] := by
  have e1 : l.take (k + 1) = l.take k ++ [y] := by rw [List.take_add_one, h1]; rfl
  refine ⟨?_, e1⟩
  rw [show k + 2 = k + 1 + 1 from rfl, List.take_add_one, h2, e1]
  simp
end TP
namespace TR
open OM TP TM

/-- A callee's contract, met in a world of a region that draws its order. -/
theorem reg_of {f : FuncId} {args : Array Value} {v : Value} {w : World} (h : ∀ W, Below w.heap.size w W → Calls Tryz.prog f args W fun e w' => e = .returned v ∧ Below W.heap.size W w') (d : Nat) (os : Array Obj) :
    Calls Tryz.prog f args (Go.Sort.grow (redrawn w d) os) fun e w'' => e = .returned v ∧ ∃ p : Regrown, w'' = Go.Sort.grow (redrawn w p.d) p.os := Calls.regrown_of (h _ (below_regrown w d os))
/-- Texts of at most this size. -/
def Small (ts : List Nd) : Prop := ∀ n ∈ ts, n.path.length ≤ 1048576 ∧ n.data.length ≤ 1048576
def checkE (ts : List Nd) : Nat := if treeB ts = true then 0 else 60
theorem bad_node {ts : List Nd} {x : Nd} (hx : x ∈ ts) (h : nodeB ts x = false) : checkE ts = 60 := by
  unfold checkE treeB
  rw [if_neg]
  simp only [Bool.and_eq_true, not_and]
  intro ⟨_, h1⟩
  rw [List.all_eq_true] at h1
  rw [h1 x hx] at h
  cases h
theorem bad_chain {ts : List Nd} {k : Nat} (h : chainB (ts.take k) = false) : checkE ts = 60 := by
  unfold checkE treeB
  rw [if_neg]
  simp only [Bool.and_eq_true, not_and]
  intro _ h1
  have := chain_pre (a := ts.take k) (b := ts.drop k) (by rw [List.take_append_drop]; exact h1)
  rw [this] at h
  cases h
set_option maxRecDepth 100000 in
set_option maxHeartbeats 3200000 in
theorem rcheck_any (ao : Option Addr) (cap : Nat) (ts : List Nd) (w : World) (h : LayN w ao ts) (hs : Small ts) (hl : ts.length ≤ maxLen) :
    Calls Tryz.prog 23 #[.slice ao ts.length cap] w fun r w' => r = .returned (.int .i64 (checkE ts : Nat)) ∧ Below w.heap.size w w' := by
  obtain ⟨n, hn⟩ : ∃ n, ts.length = n := ⟨_, rfl⟩
  have HN := Lib.hid hn
  have HL := Lib.hid h
  have HSm := Lib.hid hs
  unfold maxLen at hl
  rw [hn] at hl ⊢
  have hnz : (n : Int) ≤ 9223372036854775807 := by omega
  by_cases h0 : n ≤ 1000
  · have h0z : ¬ (1000 : Int) < n := by omega
    have cD : ∀ W p, LayN W ao ts → Calls Tryz.prog 72 #[.slice ao n cap, txt p] W fun r w' => r = .returned (.bool (dirB ts p)) ∧ Below W.heap.size W w' := fun W p hW => by
      have := rdir_any ao cap ts p W hW (by unfold maxLen; omega)
      rw [hn] at this
      exact this
    have CD := Lib.hid cD
    clear h hn hl hs cD
    go_enter Tryz.func23, Tryz.ntmps23
    repeat (first | go_skip | go_guarded | go_step | go_upon)
    go_loopw [3] (fun s3 wr => ∃ k : Nat, s3 = .int .i64 k ∧ k ≤ n ∧ (∀ m ∈ ts.take k, nodeB ts m = true) ∧ chainB (ts.take k) = true ∧ Below w.heap.size w wr) (fun s3 _ => n - (Go.RowKit.intOf s3).toNat)
    case atStart => exact ⟨0, rfl, Nat.zero_le _, fun m hm => by simp at hm, rfl, Below.refl _ _⟩
    case round =>
      obtain ⟨k, rfl, hk, ha, hc, hb⟩ := hrel
      have HA := Lib.hid ha
      have HC := Lib.hid hc
      have HB := Lib.hid hb
      have hbs := hb.size
      have HLr := Lib.hid (HL.out.below hb)
      clear ha hc hb
      by_cases hlt : k < n
      · have hkz : (k : Int) < n := by omega
        obtain ⟨g, o, rfl, hg, hcell⟩ := HLr.out (by rw [HN.out]; omega)
        obtain ⟨x, hx⟩ : ∃ x, ts[k]? = some x := ⟨ts[k]'(by rw [HN.out]; exact hlt), List.getElem?_eq_getElem _⟩
        have hmem := List.mem_of_getElem? hx
        obtain ⟨hs1, hs2⟩ := HSm.out x hmem
        have HNd := Lib.hid (hcell k x hx)
        have HCe := Lib.hid hcell
        have c0 := HNd.out.p
        unfold txt at c0
        obtain ⟨X, hX⟩ : ∃ X : ByteArray, ⟨x.path.toArray⟩ = X := ⟨_, rfl⟩
        have hXd : X.data.toList = x.path := by rw [← hX]
        obtain ⟨D, hD⟩ : ∃ D : ByteArray, ⟨x.data.toArray⟩ = D := ⟨_, rfl⟩
        rw [hX] at c0
        have hXs : X.size ≤ 1048576 := by rw [Lib.size_eq, hXd]; exact hs1
        obtain ⟨kx, hkx⟩ : ∃ kx, x.kind = kx := ⟨_, rfl⟩
        obtain ⟨mx, hmx⟩ : ∃ mx, x.mode = mx := ⟨_, rfl⟩
        have cells : ∀ W, Below wr.heap.size wr W → W.cell? ⟨g, o + k * 4, none⟩ = some (.string X) ∧ W.cell? ⟨g, o + k * 4 + 1, none⟩ = some (.int .i64 kx) ∧ W.cell? ⟨g, o + k * 4 + 2, none⟩ = some (.string D) ∧ W.cell? ⟨g, o + k * 4 + 3, none⟩ = some (.int .i64 mx) := fun W hW => by
          have := HNd.out.below hg hW
          have p := this.p
          have d := this.d
          unfold txt at p d
          rw [hX] at p
          rw [hD] at d
          exact ⟨p, by rw [← hkx]; exact this.k, d, by rw [← hmx]; exact this.m⟩
        have c1 : ∀ W, Calls Tryz.prog 70 #[.string X] W fun r w' => r = .returned (.bool (NP.pathL x.path)) ∧ Below W.heap.size W w' := fun W => by
          have := R1.RQ.rpath_any X W hXs
          rw [hXd] at this
          exact this
        have c2 : ∀ W, Calls Tryz.prog 71 #[.agg #[.string X, .int .i64 kx, .string D, .int .i64 mx]] W fun r w' => r = .returned (.bool (rightB x)) ∧ Below W.heap.size W w' := fun W => by
          have := rright_any x W (by unfold maxLen; omega)
          unfold ndVal txt at this
          rw [hX, hD, hkx, hmx] at this
          exact this
        have c3 : ∀ W, Calls Tryz.prog 73 #[.string X] W fun r w' => r = .returned (txt (NP.parentL x.path)) ∧ Below W.heap.size W w' := fun W => by
          refine (R1.RT.rparent_any X W hXs).mono ?_
          rintro r w' ⟨t, rfl, ht, hb⟩
          rw [hXd] at ht
          exact ⟨by rw [← ht, txt_data], hb⟩
        obtain ⟨P, hP⟩ : ∃ P : ByteArray, ⟨(NP.parentL x.path).toArray⟩ = P := ⟨_, rfl⟩
        have c4 : ∀ W, LayN W (some ⟨g, o, none⟩) ts → Calls Tryz.prog 72 #[.slice (some ⟨g, o, none⟩) n cap, .string P] W fun r w' => r = .returned (.bool (dirB ts (NP.parentL x.path))) ∧ Below W.heap.size W w' := fun W hW => by
          have := CD.out W (NP.parentL x.path) hW
          unfold txt at this
          rw [hP] at this
          exact this
        unfold txt at c3
        rw [hP] at c3
        obtain ⟨b1, hb1⟩ : ∃ b, NP.pathL x.path = b := ⟨_, rfl⟩
        obtain ⟨b2, hb2⟩ : ∃ b, rightB x = b := ⟨_, rfl⟩
        obtain ⟨b3, hb3⟩ : ∃ b, dirB ts (NP.parentL x.path) = b := ⟨_, rfl⟩
        have HNB : Hid (nodeB ts x = (b1 && b2 && b3)) := Lib.hid (by unfold nodeB; rw [hb1, hb2, hb3])
        rw [hb1] at c1
        rw [hb2] at c2
        rw [hb3] at c4
        have C1 := Lib.hid c1
        have C2 := Lib.hid c2
        have C3 := Lib.hid c3
        have C4 := Lib.hid c4
        have CL := Lib.hid cells
        have HX := Lib.hid hx
        have HXd := Lib.hid hXd
        have HXm := Lib.hid hmem
        clear c1 c2 c3 c4 cells hX hXd hD hkx hmx hb1 hb2 hb3 hP hx hmem hs1 hs2 hcell
        cases b1 with
        | false =>
          have HF : Hid (checkE ts = 60) := Lib.hid (bad_node HXm.out (by rw [HNB.out]; rfl))
          repeat (first | (go_at_call 70; refine (C1.out _).mono ?_; rintro r w1 ⟨rfl, hb⟩; simp only []; have B1 := Lib.hid (Below.trans HB.out (hb.mono hbs)); clear hb) | go_skip | go_guarded | go_step | go_upon)
          go_ret
          exact ⟨by rw [HF.out]; rfl, B1.out⟩
        | true =>
          cases b2 with
          | false =>
            have HF : Hid (checkE ts = 60) := Lib.hid (bad_node HXm.out (by rw [HNB.out]; rfl))
            repeat (first | (go_at_call 70; refine (C1.out _).mono ?_; rintro r w1 ⟨rfl, hb⟩; simp only []; obtain ⟨e0, e1, e2, e3⟩ := CL.out w1 hb; have W1 := Lib.hid hb; clear hb) | (go_at_call 71; refine (C2.out _).mono ?_; rintro r w2 ⟨rfl, hb⟩; simp only []; obtain ⟨e4, e5, e6, e7⟩ := CL.out w2 (Below.trans W1.out (hb.mono W1.out.size)); have W2 := Lib.hid (Below.trans W1.out (hb.mono W1.out.size)); clear hb) | go_skip | go_guarded | go_step | go_upon)
            go_ret
            exact ⟨by rw [HF.out]; rfl, Below.trans HB.out (W2.out.mono hbs)⟩
          | true =>
            cases b3 with
            | false =>
              have HF : Hid (checkE ts = 60) := Lib.hid (bad_node HXm.out (by rw [HNB.out]; rfl))
              repeat (first | (go_at_call 70; refine (C1.out _).mono ?_; rintro r w1 ⟨rfl, hb⟩; simp only []; obtain ⟨e0, e1, e2, e3⟩ := CL.out w1 hb; have W1 := Lib.hid hb; clear hb) | (go_at_call 71; refine (C2.out _).mono ?_; rintro r w2 ⟨rfl, hb⟩; simp only []; obtain ⟨e4, e5, e6, e7⟩ := CL.out w2 (Below.trans W1.out (hb.mono W1.out.size)); have W2 := Lib.hid (Below.trans W1.out (hb.mono W1.out.size)); clear hb) | (go_at_call 73; refine (C3.out _).mono ?_; rintro r w3 ⟨rfl, hb⟩; simp only []; have W3 := Lib.hid (Below.trans W2.out (hb.mono W2.out.size)); clear hb) | (go_at_call 72; refine (C4.out _ (HLr.out.below W3.out)).mono ?_; rintro r w4 ⟨rfl, hb⟩; simp only []; obtain ⟨e8, e9, e10, e11⟩ := CL.out w4 (Below.trans W3.out (hb.mono W3.out.size)); have W4 := Lib.hid (Below.trans W3.out (hb.mono W3.out.size)); clear hb) | go_skip | go_guarded | go_step | go_upon)
              go_ret
              exact ⟨by rw [HF.out]; rfl, Below.trans HB.out (W4.out.mono hbs)⟩
            | true =>
              have HA2 : Hid (∀ m ∈ ts.take (k + 1), nodeB ts m = true) := Lib.hid (fun m hm => by
                rw [List.take_add_one, HX.out] at hm
                rcases List.mem_append.1 hm with hm | hm
                · exact HA.out m hm
                · simp at hm; rw [hm, HNB.out]; rfl)
              by_cases hk0 : k = 0
              · have hk0n : ¬ 0 < k := by omega
                have hk0d : decide (0 < k) = false := decide_eq_false hk0n
                have HC2 : Hid (chainB (ts.take (k + 1)) = true) := Lib.hid (by rw [List.take_add_one, HX.out, hk0]; rfl)
                clear hk0
                repeat (first | (go_at_call 70; refine (C1.out _).mono ?_; rintro r w1 ⟨rfl, hb⟩; simp only []; obtain ⟨e0, e1, e2, e3⟩ := CL.out w1 hb; have W1 := Lib.hid hb; clear hb) | (go_at_call 71; refine (C2.out _).mono ?_; rintro r w2 ⟨rfl, hb⟩; simp only []; obtain ⟨e4, e5, e6, e7⟩ := CL.out w2 (Below.trans W1.out (hb.mono W1.out.size)); have W2 := Lib.hid (Below.trans W1.out (hb.mono W1.out.size)); clear hb) | (go_at_call 73; refine (C3.out _).mono ?_; rintro r w3 ⟨rfl, hb⟩; simp only []; have W3 := Lib.hid (Below.trans W2.out (hb.mono W2.out.size)); clear hb) | (go_at_call 72; refine (C4.out _ (HLr.out.below W3.out)).mono ?_; rintro r w4 ⟨rfl, hb⟩; simp only []; obtain ⟨e8, e9, e10, e11⟩ := CL.out w4 (Below.trans W3.out (hb.mono W3.out.size)); have W4 := Lib.hid (Below.trans W3.out (hb.mono W3.out.size)); clear hb) | go_skip | go_guarded | go_step | go_upon)
                clear e0 e1 e2 e3 e4 e5 e6 e7 e8 e9 e10 e11
                with_reducible refine wp_region_quiet_below (by kernel_rfl) (by kernel_rfl) ?_
                repeat (go_big_quiet_step (fail))
                refine wpQuiet_nil ?_
                intro _ hw'
                obtain ⟨⟨dq, osq⟩, hw''⟩ := hw'
                subst hw''
                have W5 : Hid (Below wr.heap.size wr (Go.Sort.grow (redrawn w4 dq) osq)) := Lib.hid (Below.trans W4.out ((below_regrown w4 dq osq).mono W4.out.size))
                generalize Go.Sort.grow (redrawn w4 dq) osq = w5 at W5 ⊢
                repeat (first | go_skip | go_guarded | go_step | go_upon)
                exact ⟨⟨k + 1, by go_num, by omega, HA2.out, HC2.out, Below.trans HB.out (W5.out.mono hbs)⟩, by simp [Go.RowKit.intOf]; omega⟩
              · obtain ⟨j, hj⟩ : ∃ j, k = j + 1 := ⟨k - 1, by omega⟩
                have hjz : (k : Int) - 1 = j := by omega
                have hjn : (j : Int) < n := by omega
                have hk0n : 0 < k := by omega
                have hk0d : decide (0 < k) = true := decide_eq_true hk0n
                obtain ⟨y, hy⟩ : ∃ y, ts[j]? = some y := ⟨ts[j]'(by rw [HN.out]; omega), List.getElem?_eq_getElem _⟩
                obtain ⟨Y, hY⟩ : ∃ Y : ByteArray, ⟨y.path.toArray⟩ = Y := ⟨_, rfl⟩
                have hYd : Y.data.toList = y.path := by rw [← hY]
                have hYs : Y.size ≤ 1048576 := by rw [Lib.size_eq, hYd]; exact (HSm.out y (List.mem_of_getElem? hy)).1
                have CY : Hid (∀ W, Below wr.heap.size wr W → W.cell? ⟨g, o + j * 4, none⟩ = some (.string Y)) := Lib.hid (fun W hW => by
                  have := ((HCe.out j y hy).below hg hW).p
                  unfold txt at this
                  rw [hY] at this
                  exact this)
                obtain ⟨z, hz⟩ : ∃ z, NP.ordL y.path x.path = z := ⟨_, rfl⟩
                have c5 : ∀ W, Calls Tryz.prog 74 #[.string Y, .string X] W fun r w' => r = .returned (.int .i64 z) ∧ Below W.heap.size W w' := fun W => by
                  refine (R1.RO.rorder_any Y X W hYs hXs).mono ?_
                  rintro r w' ⟨rfl, hb⟩
                  rw [hYd, HXd.out, hz]
                  exact ⟨rfl, hb⟩
                have C5 := Lib.hid c5
                have HCh : Hid (chainB (ts.take (k + 1)) = decide (z < 0)) := Lib.hid (by
                  have hx2 := HX.out
                  rw [hj] at hx2 ⊢
                  obtain ⟨t1, t2⟩ := take_two hy hx2
                  have h1 := HC.out
                  rw [hj, t2] at h1
                  rw [t1, chain_snoc, h1, hz]
                  rfl)
                have hk64 : (k : Int) ≤ 1000 := by omega
                clear c5 hY hYd hYs hy hz hj hk0
                repeat (first | (go_at_call 70; refine (C1.out _).mono ?_; rintro r w1 ⟨rfl, hb⟩; simp only []; obtain ⟨e0, e1, e2, e3⟩ := CL.out w1 hb; have W1 := Lib.hid hb; clear hb) | (go_at_call 71; refine (C2.out _).mono ?_; rintro r w2 ⟨rfl, hb⟩; simp only []; obtain ⟨e4, e5, e6, e7⟩ := CL.out w2 (Below.trans W1.out (hb.mono W1.out.size)); have W2 := Lib.hid (Below.trans W1.out (hb.mono W1.out.size)); clear hb) | (go_at_call 73; refine (C3.out _).mono ?_; rintro r w3 ⟨rfl, hb⟩; simp only []; have W3 := Lib.hid (Below.trans W2.out (hb.mono W2.out.size)); clear hb) | (go_at_call 72; refine (C4.out _ (HLr.out.below W3.out)).mono ?_; rintro r w4 ⟨rfl, hb⟩; simp only []; obtain ⟨e8, e9, e10, e11⟩ := CL.out w4 (Below.trans W3.out (hb.mono W3.out.size)); have W4 := Lib.hid (Below.trans W3.out (hb.mono W3.out.size)); clear hb) | go_skip | go_guarded | go_step | go_upon)
                have y1 := CY.out w4 W4.out
                have f8 := cell_regrown e8
                have g1 := cell_regrown y1
                have D5 := Lib.hid (reg_of (w := w4) (fun W _ => C5.out W))
                clear e0 e1 e2 e3 e4 e5 e6 e7 e9 e10 e11
                with_reducible refine wp_region_quiet_below (by kernel_rfl) (by kernel_rfl) ?_
                repeat (go_big_quiet_step (first | (go_at_call 74; exact D5.out _ _)))
                refine wpQuiet_nil ?_
                intro _ hw'
                obtain ⟨⟨dq, osq⟩, hw''⟩ := hw'
                subst hw''
                have W5 : Hid (Below wr.heap.size wr (Go.Sort.grow (redrawn w4 dq) osq)) := Lib.hid (Below.trans W4.out ((below_regrown w4 dq osq).mono W4.out.size))
                clear f8 g1 e8 y1
                generalize Go.Sort.grow (redrawn w4 dq) osq = w5 at W5 ⊢
                by_cases hz0 : z < 0
                · have hz1 : ¬ 0 ≤ z := by omega
                  have HC2 : Hid (chainB (ts.take (k + 1)) = true) := Lib.hid (by rw [HCh.out, decide_eq_true hz0])
                  repeat (first | go_skip | go_guarded | go_step | go_upon)
                  exact ⟨⟨k + 1, by go_num, by omega, HA2.out, HC2.out, Below.trans HB.out (W5.out.mono hbs)⟩, by simp [Go.RowKit.intOf]; omega⟩
                · have hz1 : 0 ≤ z := by omega
                  have HF : Hid (checkE ts = 60) := Lib.hid (bad_chain (k := k + 1) (by rw [HCh.out, decide_eq_false hz0]))
                  repeat (first | go_skip | go_guarded | go_step | go_upon)
                  go_ret
                  exact ⟨by rw [HF.out]; rfl, Below.trans HB.out (W5.out.mono hbs)⟩
      · have hkz : ¬ (k : Int) < n := by omega
        have HF : Hid (checkE ts = 0) := Lib.hid (by
          have et : ts.take k = ts := List.take_of_length_le (by rw [HN.out]; omega)
          have h1 := HA.out
          have h2 := HC.out
          rw [et] at h1 h2
          unfold checkE treeB
          rw [HN.out, decide_eq_true h0, List.all_eq_true.2 h1, h2]
          rfl)
        clear hlt
        repeat (first | go_skip | go_guarded | go_step | go_upon)
        go_ret
        exact ⟨by rw [HF.out]; rfl, HB.out⟩
  · have h0z : (1000 : Int) < n := by omega
    have HB : Hid (checkE ts = 60) := Lib.hid (by unfold checkE treeB; rw [hn, decide_eq_false h0]; rfl)
    clear h hn hl hs h0
    go_enter Tryz.func23, Tryz.ntmps23
    repeat (first | go_skip | go_guarded | go_step | go_upon)
    go_ret
    exact ⟨by rw [HB.out]; rfl, Below.refl _ _⟩
end TR
end Go.Proofs.YtfbhbadcgecgmaaGreatDoor
