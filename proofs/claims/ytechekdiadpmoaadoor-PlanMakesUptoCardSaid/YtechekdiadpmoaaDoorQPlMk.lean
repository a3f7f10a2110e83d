/- Layer 13: the walk of PlanMakes. -/
import Derived.Test.YtechekdiadpmoaaDoorQPlR
import Derived.Test.YtechekdiadpmoaaDoorQPlMore
set_option linter.all false
set_option maxRecDepth 100000
set_option maxHeartbeats 25600000
namespace Go.Proofs.YtechekdiadpmoaaDoor
open Go.RowKit Go.Lib Go.Maps Go.BigFrame
namespace PR
open OM TM PL PM PB

theorem step_app_list {P : Program} {w : World} {ops : Array Oper} {rest : List Oper} {o : Oper} {a : Act} {Q : Exit → Act → World → Prop} (hgd : o.guard = none) (s x : Operand) (t t2 : TypeId)
    (ho : o.op = .call { callee := .builtin .append, args := #[s, x], argTypes := #[t, t2] }) (u v : Value) (hs : a.eval s = u) (hx : a.eval x = v) {v' : Value} {w' : World}
    (hr : (Builtin.append_ #[t, t2] o.type #[u, v]).run P w = .ok v' w') (h : wpList P ops Q rest (a.put o.dst v') w') : wpList P ops Q (o :: rest) a w := by
  refine wpList_plain hgd fun K hK => ?_
  unfold Oper.wp
  simp [execOp, ho, resolve, invoke, builtin, hs, hx, hr, Result.andThen]
  exact hK _ _ h
theorem arg_owned {W : World} {base : Nat} {e : TypeId} {a : Option Addr} {c n : Nat} {l : List Pi} (ho : W.ownsRow base e 2 (.slice a n c) n (plC l)) (hn : l.length = n) (hl : l.length ≤ 1048576) (hs : ∀ x ∈ l, x.1.length ≤ 1048576) : ArgP W a c l := by
  subst hn
  obtain ⟨a3, c3, e3, hl3⟩ := lay_pl ho
  injection e3 with e1 e2 e3
  subst e1 e3
  have hcap : (a = none → c = 0) ∧ l.length ≤ c := by
    rcases ho.2 with ⟨e1, e2⟩ | ⟨g, cap, cur, e1, _, _, hcap, _, _⟩
    · injection e1 with e1 e3 e4
      exact ⟨fun _ => e4, by omega⟩
    · injection e1 with e1 e3 e4
      subst e1 e4
      exact ⟨(fun e => by cases e), hcap⟩
  exact ⟨hl3, hcap.1, hcap.2, hl, hs⟩
theorem run_copyC (W : World) (base : Nat) (ao : Option Addr) (cap n : Nat) (l : List Pi) (v : Value) (hl : LayP W ao l) (hown : W.ownsRow base 51 2 v 0 []) (hb : base ≤ W.heap.size) (hn : l.length ≤ 1048576) (hnn : l.length = n) :
    ∃ v' w', (Builtin.append_ #[40, 40] 40 #[v, .slice ao n cap]).run Tryd.prog W = .ok v' w' ∧ w'.ownsRow base 51 2 v' n (plC l) ∧ W.grownBy w' v.ownBlock := by
  obtain ⟨i1, hi1, hy0, hy1, hy2⟩ := info_parts infoC
  subst hnn
  by_cases h0 : 0 < l.length
  · obtain ⟨g, o, e, hlt, hc⟩ := hl h0
    subst e
    obtain ⟨v', w', h1, h2, h3, -⟩ := run_append_own (P := Tryd.prog) W base 40 40 51 i1 _ 2 24 Tryd.underlying40 hi1 hy0 hy1 hy2 rfl (by decide) v 0 [] hown ⟨g, o, none⟩ l.length cap (plC l) (plC_len l) (pl_cell hc) (pl_one l) (by unfold maxLen; omega) (by omega) hb
    rw [Nat.zero_add, List.nil_append] at h2
    exact ⟨v', w', h1, h2, h3⟩
  · obtain rfl : l = [] := by cases l with | nil => rfl | cons _ _ => simp at h0
    cases ao with
    | some a0 =>
      obtain ⟨v', w', h1, h2, h3, -⟩ := run_append_own (P := Tryd.prog) W base 40 40 51 i1 _ 2 24 Tryd.underlying40 hi1 hy0 hy1 hy2 rfl (by decide) v 0 [] hown a0 0 cap [] rfl (fun j u hu => by simp at hu) (fun u hu => by simp at hu) (by unfold maxLen; omega) (by omega) hb
      exact ⟨v', w', h1, h2, h3⟩
    | none =>
      refine ⟨v, W, ?_, hown, ⟨rfl, rfl, rfl, Nat.le_refl _, fun _ _ _ => rfl⟩⟩
      show (Builtin.append_ #[40, 40] 40 #[v, .slice none 0 cap]).run Tryd.prog W = .ok v W
      rcases hown.2 with ⟨rfl, h4⟩ | ⟨g, cap', cur, rfl, _, _, hnc, _⟩
      · simp [Builtin.append_, run_underlying Tryd.underlying40, sizeOf, typeInfo, hi1, Builtin.lenOf, Builtin.firstCells]
      · simp [Builtin.append_, run_underlying Tryd.underlying40, sizeOf, typeInfo, hi1, Builtin.lenOf, Builtin.firstCells, hnc, storeCells]
/-- A list of the caller's, appended to an empty one. -/
theorem copy_C (W0 W1 : World) (ao : Option Addr) (cap n : Nat) (l : List Pi) (hL : ArgP W1 ao cap l) (hn : l.length = n) (hb : Below W0.heap.size W0 W1) :
    ∃ a9 c9 w5, (Builtin.append_ #[40, 40] 40 #[.slice (some ⟨W1.heap.size, 0, none⟩) 0 0, .slice ao n cap]).run Tryd.prog (W1.alloc (.cells #[] 51)) = .ok (.slice a9 n c9) w5 ∧ ArgP w5 a9 c9 l ∧ Below W0.heap.size W0 w5 := by
  have ho : (W1.alloc (.cells #[] 51)).ownsRow W0.heap.size 51 2 (.slice (some ⟨W1.heap.size, 0, none⟩) 0 0) 0 [] := World.ownsRow_made (base := W0.heap.size) (e := 51) (size := 2) W1 #[] 0 hb.size (Nat.zero_le _) rfl
  have hb2 := hb.alloc hb.size (.cells #[] 51)
  have hL2 := hL.below ((Below.refl _ _).alloc (Nat.le_refl _) (.cells #[] 51))
  obtain ⟨v', w5, h1, h2, h3⟩ := run_copyC _ W0.heap.size ao cap n l _ hL2.lay ho hb2.size hL.len hn
  obtain ⟨a9, c9, hv, -⟩ := owns_view h2
  subst hv
  refine ⟨a9, c9, w5, h1, arg_owned h2 hn hL.len hL.small, hb2.grown h3 hb2.size (fun j hj => ?_)⟩
  have h4 : some W1.heap.size = some j := hj
  injection h4 with h4
  have := hb.size
  omega
/-- A list of the caller's, appended to an empty one. -/
theorem copy_I (W0 W1 : World) (ao : Option Addr) (cap n : Nat) (l : List Pi) (hL : ArgP W1 ao cap l) (hn : l.length = n) (hb : Below W0.heap.size W0 W1) :
    ∃ a9 c9 w5, (Builtin.append_ #[26, 26] 26 #[.slice (some ⟨W1.heap.size, 0, none⟩) 0 0, .slice ao n cap]).run Tryd.prog (W1.alloc (.cells #[] 34)) = .ok (.slice a9 n c9) w5 ∧ ArgP w5 a9 c9 l ∧ Below W0.heap.size W0 w5 := by
  have ho : (W1.alloc (.cells #[] 34)).ownsRow W0.heap.size 34 2 (.slice (some ⟨W1.heap.size, 0, none⟩) 0 0) 0 [] := World.ownsRow_made (base := W0.heap.size) (e := 34) (size := 2) W1 #[] 0 hb.size (Nat.zero_le _) rfl
  have hb2 := hb.alloc hb.size (.cells #[] 34)
  have hL2 := hL.below ((Below.refl _ _).alloc (Nat.le_refl _) (.cells #[] 34))
  obtain ⟨v', w5, h1, h2, h3⟩ := run_copyP _ W0.heap.size ao cap n l _ hL2.lay ho hb2.size hL.len hn
  obtain ⟨a9, c9, hv, -⟩ := owns_view h2
  subst hv
  refine ⟨a9, c9, w5, h1, arg_owned h2 hn hL.len hL.small, hb2.grown h3 hb2.size (fun j hj => ?_)⟩
  have h4 : some W1.heap.size = some j := hj
  injection h4 with h4
  have := hb.size
  omega
theorem mk_len (s : Say) (items cs : List Pi) : (makeL s items cs).1.length ≤ items.length := by
  rw [make_eq]
  unfold makeR
  split
  · exact Nat.zero_le _
  · split
    · exact Nat.zero_le _
    · exact done_len s cs items
set_option maxRecDepth 100000 in
set_option maxHeartbeats 12800000 in
theorem makes_law (hMS : MatchR) (iv : Option Addr) (il ic : Nat) (jv : Option Addr) (jl jc : Nat) (mo : Option Addr) (mc : Nat) (M : List Pm) (pr fo : Int) (ba fa : Bool) (ao : Option Addr) (ca : Nat) (items : List Pi) (co : Option Addr) (cc : Nat) (cs : List Pi) (w : World) (he : NF.Env w) (hM : ArgM w mo mc M) (hI : ArgP w ao ca items) (hC : ArgP w co cc cs) :
    Calls Tryd.prog 5 #[.slice ao items.length ca, profV (.slice iv il ic) (.slice jv jl jc) mo M.length mc pr fo ba fa, .slice co cs.length cc] w fun r w' => r = .returned (.bool true) ∧ Below w.heap.size w w' := by
  have CW : Hid (∀ W, Below w.heap.size w W → Calls Tryd.prog 15 #[] W fun r w' => r = .returned (.bool true) ∧ Below W.heap.size W w') := Lib.hid (fun W hW => awake_any W (he.below hW))
  have CM : Hid (∀ W a2 c2 a3 c3, Below w.heap.size w W → ArgP W a2 c2 items → ArgP W a3 c3 cs → Calls Tryd.prog 16 #[.slice a2 items.length c2, profV (.slice iv il ic) (.slice jv jl jc) mo M.length mc pr fo ba fa, .slice a3 cs.length c3] W (MakePost (makeL ⟨fo, pr, ba, fun q => decide (progL M q ≠ [])⟩ items cs) W)) := Lib.hid (fun W a2 c2 a3 c3 hW h2 h3 => make_any iv il ic jv jl jc mo mc M pr fo ba fa a2 c2 items a3 c3 cs W (he.below hW) (hM.below hW) h2 h3)
  have CR : Hid (∀ W, Below w.heap.size w W → Calls Tryd.prog 17 #[.slice ao items.length ca, profV (.slice iv il ic) (.slice jv jl jc) mo M.length mc pr fo ba fa, .slice co cs.length cc] W (MakePost (makeL ⟨fo, pr, ba, fun q => decide (progL M q ≠ [])⟩ items cs) W)) := Lib.hid (fun W hW => rmake_any hMS iv il ic jv jl jc mo mc M pr fo ba fa ao ca items co cc cs W (hM.below hW) (hI.below hW) (hC.below hW))
  have CP : Hid (∀ W (p : List UInt8), Below w.heap.size w W → p.length ≤ 1048576 → Calls Tryd.prog 19 #[profV (.slice iv il ic) (.slice jv jl jc) mo M.length mc pr fo ba fa, txt p] W fun e W' => e = .returned (txt (progL M p)) ∧ Below W.heap.size W W') := Lib.hid (fun W p hW hp => program_any _ _ mo mc M pr fo ba fa p W (he.below hW) (hM.below hW) hp)
  have CQ : Hid (∀ W (p : List UInt8), Below w.heap.size w W → p.length ≤ 1048576 → Calls Tryd.prog 20 #[profV (.slice iv il ic) (.slice jv jl jc) mo M.length mc pr fo ba fa, txt p] W fun e W' => e = .returned (txt (progL M p)) ∧ Below W.heap.size W W') := Lib.hid (fun W p hW hp => rprog_any hMS _ _ mo mc M pr fo ba fa p W (hM.below hW) hp)
  have HI := Lib.hid hI
  have HC := Lib.hid hC
  have HM := Lib.hid hM
  have hlen := hI.len
  have hlem := hC.len
  have hlenm := hM.len
  obtain ⟨s, hs⟩ : ∃ s : Say, (⟨fo, pr, ba, fun q => decide (progL M q ≠ [])⟩ : Say) = s := ⟨_, rfl⟩
  rw [hs] at CM CR
  have hmk := mk_len s items cs
  obtain ⟨⟨PL, PN, PE⟩, hP⟩ : ∃ P, makeL s items cs = P := ⟨_, rfl⟩
  rw [hP] at CM CR hmk
  simp only at hmk
  obtain ⟨n, hn⟩ : ∃ n, items.length = n := ⟨_, rfl⟩
  have HN := Lib.hid hn
  obtain ⟨m, hm⟩ : ∃ m, cs.length = m := ⟨_, rfl⟩
  have HMm := Lib.hid hm
  obtain ⟨nm, hnm⟩ : ∃ nm, M.length = nm := ⟨_, rfl⟩
  have HNm := Lib.hid hnm
  rw [hn, hm, hnm] at CM CR ⊢
  rw [hn] at hlen hmk
  rw [hm] at hlem
  rw [hnm] at CP CQ hlenm
  unfold profV at CM CR CP CQ ⊢
  unfold txt at CP CQ
  unfold MakePost at CM CR
  simp only at CM CR
  have hnz : (n : Int) ≤ 1048576 := by omega
  have hmz : (m : Int) ≤ 1048576 := by omega
  have hnmz : (nm : Int) ≤ 1048576 := by omega
  clear hMS he hM hI hC hs hn hm hnm hP
  go_enter Tryd.func5, Tryd.ntmps5
  repeat (first | go_skip | go_guarded | go_step | go_upon)
  have hAr := heap_alloc_new w (.cells #[.slice iv il ic, .slice jv jl jc, .slice mo nm mc, .int .i64 pr, .int .i64 fo, .bool ba, .bool fa] 39)
  have hA0 : Below w.heap.size w (w.alloc (.cells #[.slice iv il ic, .slice jv jl jc, .slice mo nm mc, .int .i64 pr, .int .i64 fo, .bool ba, .bool fa] 39)) := (Below.refl _ _).alloc (Nat.le_refl _) _
  generalize w.alloc (.cells #[.slice iv il ic, .slice jv jl jc, .slice mo nm mc, .int .i64 pr, .int .i64 fo, .bool ba, .bool fa] 39) = wA at hA0 hAr ⊢
  refine (CW.out _ hA0).mono ?_
  rintro r w1 ⟨rfl, hb1⟩
  simp only []
  have B1 := Lib.hid (hA0.trans (hb1.mono hA0.size))
  have hrow := row_below hAr hb1
  have RowP := Lib.hid hrow
  obtain ⟨x0, x1, x2, x3, x4, x5, x6⟩ := cells7 hrow
  clear hAr hA0 hb1 hrow
  repeat (first | go_skip | go_guarded | go_step | go_upon)
  clear x0 x1 x2 x3 x4 x5 x6
  go_loopw [23] (fun s23 wr => ∃ k : Nat, s23 = .int .i64 k ∧ k ≤ nm ∧ Below w1.heap.size w1 wr) (fun s23 _ => nm - (Go.RowKit.intOf s23).toNat)
  case atStart => exact ⟨0, rfl, Nat.zero_le _, Below.refl _ _⟩
  case round =>
    obtain ⟨k, rfl, hk, hb⟩ := hrel
    have HB := Lib.hid hb
    clear hb
    by_cases hlt : k < nm
    · have hkz : (k : Int) < nm := by omega
      obtain ⟨g, o, rfl, hg, hc⟩ := (HM.out.below (B1.out.trans (HB.out.mono B1.out.size))).lay (by rw [HNm.out]; omega)
      obtain ⟨⟨a, mp⟩, hx⟩ : ∃ x, M[k]? = some x := ⟨M[k]'(by rw [HNm.out]; exact hlt), List.getElem?_eq_getElem _⟩
      have hms : mp.length ≤ 1048576 := (HM.out.small (a, mp) (List.mem_of_getElem? hx)).2
      obtain ⟨a0, a1⟩ := hc k _ hx
      simp only at a0 a1
      unfold txt at a0 a1
      have HBn : Hid (Below w1.heap.size w1 (wr.alloc (.cells #[.string ⟨a.toArray⟩, .string ⟨mp.toArray⟩] 42))) := Lib.hid (HB.out.alloc HB.out.size _)
      clear hc hx
      by_cases hl : 30 < mp.length
      · have hlz : (30 : Int) < mp.length := by omega
        repeat (first | go_skip | go_guarded | go_step | go_upon)
        go_ret
        exact ⟨rfl, B1.out.trans (HBn.out.mono B1.out.size)⟩
      · have hlz : ¬ (30 : Int) < mp.length := by omega
        repeat (first | go_skip | go_guarded | go_step | go_upon)
        exact ⟨⟨k + 1, by go_num, by omega, HBn.out⟩, by simp [Go.RowKit.intOf]; omega⟩
    · obtain rfl : nm = k := by omega
      obtain ⟨w2, hw2⟩ : ∃ W, wr = W := ⟨_, rfl⟩
      rw [hw2] at HB ⊢
      have B2 := Lib.hid (B1.out.trans (HB.out.mono B1.out.size))
      have RowP2 := Lib.hid (row_below RowP.out HB.out)
      clear hw2 HB hk hlt RowP
      obtain ⟨a3, c3, w3, hrun, hA3, hb3⟩ := copy_C w2 w2 co cc m cs (HC.out.below B2.out) HMm.out (Below.refl _ _)
      have HA3 := Lib.hid hA3
      have B3 := Lib.hid (B2.out.trans (hb3.mono B2.out.size))
      have RowP3 := Lib.hid (row_below RowP2.out hb3)
      clear hA3 hb3
      repeat (first | (at_builtin; refine step_app_list rfl (.tmp 32) (.tmp 33) 40 40 rfl (.slice (some ⟨w2.heap.size, 0, none⟩) 0 0) (.slice co m cc) rfl rfl hrun ?_) | go_skip | go_guarded | go_step | go_upon)
      clear hrun
      refine wp_region_noPanic ?_
      with_reducible refine QT.region_mix (S := fun W' => W'.heap[w.heap.size]? = some (.cells #[.slice iv il ic, .slice jv jl jc, .slice mo nm mc, .int .i64 pr, .int .i64 fo, .bool ba, .bool fa] 39 (0, 0))) [(true, 1), (true, 3), (true, 4), (false, 0), (false, 2), (false, 5), (true, 6), (true, 7), (true, 8), (true, 9), (true, 10), (true, 11)] 12 (by kernel_rfl) (by kernel_rfl) ?_ ?_ ?_
      · exact fun _ _ _ _ _ h => h
      · exact RowP3.out
      intro _
      simp only [QT.pickM, List.filterMap_cons, List.filterMap_nil, List.getElem?_cons_succ, List.getElem?_cons_zero, Option.map_some, List.drop_succ_cons, List.drop_zero]
      iterate 3 (refine QT.wpMix_take _ (by rfl) (by intro w' hSw; obtain ⟨x0, x1, x2, x3, x4, x5, x6⟩ := cells7 hSw; go_simp; first | done | rfl) ?_; try simp only [Act.put, List.setIfInBounds_toArray, List.set_cons_zero, List.set_cons_succ])
      have hbd : Below w3.heap.size w3 w3.drew := (Below.refl _ _).drew
      generalize w3.drew = W3 at hbd ⊢
      intro K' hK
      rw [if_pos (by rfl)]
      go_simp
      refine hK.out _ _ (row_below RowP3.out (hbd.alloc hbd.size _)) ?_
      clear hK K'
      try simp only [Act.put, List.setIfInBounds_toArray, List.set_cons_zero, List.set_cons_succ]
      obtain ⟨a5, c5, w5, hrun, hA5, hb5⟩ := copy_I w3 W3 ao ca n items (HI.out.below (B3.out.trans (hbd.mono B3.out.size))) HN.out hbd
      intro K' hK
      refine step_app_eq rfl (.tmp 36) (.tmp 37) 26 26 rfl (.slice (some ⟨W3.heap.size, 0, none⟩) 0 0) (.slice ao n ca) rfl rfl hrun ?_
      refine hK.out _ _ (row_below RowP3.out hb5) ?_
      clear hK K' hrun
      try simp only [Act.put, List.setIfInBounds_toArray, List.set_cons_zero, List.set_cons_succ]
      have B5 : Hid (Below w.heap.size w w5) := Lib.hid (B3.out.trans (hb5.mono B3.out.size))
      have RowP5 := Lib.hid (row_below RowP3.out hb5)
      have HA5 := Lib.hid hA5
      have HA35 := Lib.hid (HA3.out.below hb5)
      clear hA5 hb5 hbd HA3
      intro K' hK
      rw [if_pos (by rfl)]
      go_simp
      refine (CM.out w5 a5 c5 a3 c3 B5.out HA5.out HA35.out).mono ?_
      rintro r w6 ⟨u6, c6, rfl, hl6, -, hc6, hb6⟩
      simp only []
      have B6 := Lib.hid (B5.out.trans (hb6.mono B5.out.size))
      have RowP6 := Lib.hid (row_below RowP5.out hb6)
      have HL6 := Lib.hid hl6
      have HA36 := Lib.hid (HA35.out.below hb6)
      refine hK.out _ _ RowP6.out ?_
      clear hK K' hl6 hc6 hb6
      try simp only [Act.put, List.setIfInBounds_toArray, List.set_cons_zero, List.set_cons_succ]
      iterate 6 (refine QT.wpMix_take _ (by rfl) (by intro w' hSw; go_simp; first | done | rfl) ?_; try simp only [Act.put, List.setIfInBounds_toArray, List.set_cons_zero, List.set_cons_succ])
      refine QT.wpMix_nil ?_
      repeat (first | go_skip | go_guarded | go_step | go_upon)
      refine NoPanic.normal ?_
      obtain ⟨x0, x1, x2, x3, x4, x5, x6⟩ := cells7 RowP6.out
      repeat (first | go_skip | go_guarded | go_step | go_upon)
      refine (CR.out w6 B6.out).mono ?_
      rintro r w7 ⟨u7, c7, rfl, hl7, -, hc7, hb7⟩
      simp only []
      have B7 := Lib.hid (B6.out.trans (hb7.mono B6.out.size))
      have RowP7 := Lib.hid (row_below RowP6.out hb7)
      have HL67 := Lib.hid (HL6.out.below hb7)
      have HL7 := Lib.hid hl7
      have HA37 := Lib.hid (HA36.out.below hb7)
      clear x0 x1 x2 x3 x4 x5 x6 hl7 hc7 hb7
      have C1 : Hid (∀ W, Below w7.heap.size w7 W → Calls Tryd.prog 18 #[.slice u6 PL.length c6, .slice u7 PL.length c7] W fun r w' => r = .returned (.bool true) ∧ Below W.heap.size W w') := Lib.hid (fun W hW => by
        have := rsame13_any u6 u7 c6 c7 PL PL W (HL67.out.below hW) (HL7.out.below hW) (by omega) (by omega)
        rw [decide_eq_true rfl] at this
        exact this)
      have C2 : Hid (∀ W, Below w7.heap.size w7 W → Calls Tryd.prog 18 #[.slice a3 m c3, .slice co m cc] W fun r w' => r = .returned (.bool true) ∧ Below W.heap.size W w') := Lib.hid (fun W hW => by
        have hh := rsame13_any a3 co c3 cc cs cs W (HA37.out.below hW).lay (HC.out.below (B7.out.trans (hW.mono B7.out.size))).lay (by rw [HMm.out]; omega) (by rw [HMm.out]; omega)
        rw [decide_eq_true rfl, HMm.out] at hh
        exact hh)
      obtain ⟨pl, hpl⟩ : ∃ pl, PL.length = pl := ⟨_, rfl⟩
      rw [hpl] at C1 ⊢
      clear hpl
      repeat (first | go_skip | go_guarded | go_step | go_upon)
      refine (C1.out _ (Below.refl _ _)).mono ?_
      rintro r w8 ⟨rfl, hb8⟩
      simp only []
      have B78 := Lib.hid hb8
      clear hb8
      repeat (first | go_skip | go_guarded | go_step | go_upon)
      refine (C2.out _ B78.out).mono ?_
      rintro r w9 ⟨rfl, hb9⟩
      simp only []
      have hb79 := B78.out.trans (hb9.mono B78.out.size)
      have B9 := Lib.hid (B7.out.trans (hb79.mono B7.out.size))
      have RowP9 := Lib.hid (row_below RowP7.out hb79)
      clear hb9 hb79 B78 C1 C2
      repeat (first | go_skip | go_guarded | go_step | go_upon)
      go_loopw [75] (fun s75 wr => ∃ k : Nat, s75 = .int .i64 k ∧ k ≤ n ∧ Below w9.heap.size w9 wr) (fun s75 _ => n - (Go.RowKit.intOf s75).toNat)
      case atStart => exact ⟨0, rfl, Nat.zero_le _, Below.refl _ _⟩
      case round =>
        obtain ⟨k, rfl, hk, hb⟩ := hrel
        have HB := Lib.hid hb
        clear hb
        by_cases hlt : k < n
        · have hkz : (k : Int) < n := by omega
          obtain ⟨g, o, rfl, hg, hc⟩ := (HI.out.below (B9.out.trans (HB.out.mono B9.out.size))).lay (by rw [HN.out]; omega)
          obtain ⟨⟨p, v⟩, hx⟩ : ∃ x, items[k]? = some x := ⟨items[k]'(by rw [HN.out]; exact hlt), List.getElem?_eq_getElem _⟩
          have hps : p.length ≤ 1048576 := HI.out.small (p, v) (List.mem_of_getElem? hx)
          obtain ⟨a0, a1⟩ := hc k _ hx
          simp only at a0 a1
          unfold txt at a0
          have HPs := Lib.hid hps
          clear hc hx hps
          repeat (first | go_skip | go_guarded | go_step | go_upon)
          have hi2 := heap_alloc_new wr (.cells #[.string ⟨p.toArray⟩, .int .i64 v] 34)
          have HBi : Hid (Below w9.heap.size w9 (wr.alloc (.cells #[.string ⟨p.toArray⟩, .int .i64 v] 34))) := Lib.hid (HB.out.alloc HB.out.size _)
          generalize wr.alloc (.cells #[.string ⟨p.toArray⟩, .int .i64 v] 34) = wi at hi2 HBi ⊢
          clear a0 a1
          have h8 := row_below RowP9.out HBi.out
          have B10 := Lib.hid (B9.out.trans (HBi.out.mono B9.out.size))
          obtain ⟨G, hG⟩ : ∃ G, progL M p = G := ⟨_, rfl⟩
          have D1 : Hid (∀ W, Below w.heap.size w W → _) := Lib.hid (fun W hW => CP.out W p hW HPs.out)
          have D2 : Hid (∀ W, Below w.heap.size w W → _) := Lib.hid (fun W hW => CQ.out W p hW HPs.out)
          rw [hG] at D1 D2
          clear hG
          refine wp_region_noPanic ?_
          with_reducible refine QT.region_mix (S := fun W' => W'.heap[w.heap.size]? = some (.cells #[.slice iv il ic, .slice jv jl jc, .slice mo nm mc, .int .i64 pr, .int .i64 fo, .bool ba, .bool fa] 39 (0, 0)) ∧ W'.heap[wr.heap.size]? = some (.cells #[.string ⟨p.toArray⟩, .int .i64 v] 34 (0, 0))) [(true, 0), (true, 1), (true, 2), (true, 4), (true, 5), (true, 6), (false, 3), (false, 7)] 8 (by kernel_rfl) (by kernel_rfl) ?_ ?_ ?_
          · exact fun _ _ _ _ _ h => h
          · exact ⟨h8, hi2⟩
          intro _
          simp only [QT.pickM, List.filterMap_cons, List.filterMap_nil, List.getElem?_cons_succ, List.getElem?_cons_zero, Option.map_some, List.drop_succ_cons, List.drop_zero]
          iterate 6 (refine QT.wpMix_take _ (by rfl) (by intro w' hSw; obtain ⟨x0, x1, x2, x3, x4, x5, x6⟩ := cells7 hSw.1; obtain ⟨y0, y1⟩ := cells2 hSw.2; go_simp; first | done | rfl) ?_; try simp only [Act.put, List.setIfInBounds_toArray, List.set_cons_zero, List.set_cons_succ])
          intro K' hK
          rw [if_pos (by rfl)]
          go_simp
          refine (D1.out wi.drew B10.out.drew).mono ?_
          rintro r w11 ⟨rfl, hb11⟩
          simp only []
          have hb11 : Below wi.heap.size wi w11 := (Below.refl _ _).drew.trans hb11
          have HB11 := Lib.hid hb11
          have B11 := Lib.hid (B10.out.trans (hb11.mono B10.out.size))
          refine hK.out _ _ ⟨row_below h8 hb11, row_below hi2 hb11⟩ ?_
          clear hK K' hb11
          try simp only [Act.put, List.setIfInBounds_toArray, List.set_cons_zero, List.set_cons_succ]
          intro K' hK
          rw [if_pos (by rfl)]
          go_simp
          refine (D2.out w11 B11.out).mono ?_
          rintro r w12 ⟨rfl, hb12⟩
          simp only []
          have hb12 : Below wi.heap.size wi w12 := HB11.out.trans (hb12.mono HB11.out.size)
          have HB12 : Hid (Below w9.heap.size w9 w12) := Lib.hid (HBi.out.trans (hb12.mono HBi.out.size))
          refine hK.out _ _ ⟨row_below h8 hb12, row_below hi2 hb12⟩ ?_
          clear hK K' hb12 h8 hi2
          try simp only [Act.put, List.setIfInBounds_toArray, List.set_cons_zero, List.set_cons_succ]
          refine QT.wpMix_nil ?_
          repeat (first | go_skip | go_guarded | go_step | go_upon)
          refine NoPanic.normal ?_
          repeat (first | go_skip | go_guarded | go_step | go_upon)
          exact ⟨⟨k + 1, by go_num, by omega, HB12.out⟩, by simp [Go.RowKit.intOf]; omega⟩
        · obtain rfl : n = k := by omega
          repeat (first | go_skip | go_guarded | go_step | go_upon)
          go_ret
          exact ⟨rfl, B9.out.trans (HB.out.mono B9.out.size)⟩
end PR
end Go.Proofs.YtechekdiadpmoaaDoor
