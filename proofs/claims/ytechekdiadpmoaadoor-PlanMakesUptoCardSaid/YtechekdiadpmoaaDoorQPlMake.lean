/- Layer 13: the contract of Make. -/
import Derived.Test.YtechekdiadpmoaaDoorQPlSet
import Derived.Test.YtechekdiadpmoaaDoorQQMix
import Derived.OwnWalk
set_option linter.all false
set_option maxRecDepth 100000
set_option maxHeartbeats 25600000
namespace Go.Proofs.YtechekdiadpmoaaDoor
open Go.RowKit Go.Lib Go.Maps Go.BigFrame
namespace PR
open OM TM PL PM PB

def MakePost (m : List Pi × Nat × Int) (w : World) (r : Ending) (w' : World) : Prop := ∃ ao c, r = .returned (.tuple #[.slice ao m.1.length c, .int .i64 m.2.1, .int .i64 m.2.2]) ∧ LayP w' ao m.1 ∧ (ao = none → c = 0) ∧ m.1.length ≤ c ∧ Below w.heap.size w w'
theorem infoC : (Tryd.prog.info? 51).map (fun i => (i.zero, i.size, i.bytes)) = some (some (.agg #[.string ⟨#[]⟩, .int .i64 0]), 2, 24) := by kernel_rfl
theorem done_step (s : Say) (cs items : List Pi) {k : Nat} {x : Pi} (hk : items[k]? = some x) : doneL s cs (items.take (k + 1)) = doneL s cs (items.take k) ++ (if x.2 = 1 then [] else [(x.1, settleL s cs x)]) := by
  unfold doneL
  rw [List.take_add_one, hk, List.filter_append, List.map_append]
  congr 1
  by_cases h : x.2 = 1 <;> simp [h]
theorem done_len (s : Say) (cs items : List Pi) : (doneL s cs items).length ≤ items.length := by
  unfold doneL
  rw [List.length_map]
  exact List.length_filter_le _ _
/-- Two cells, newly laid. -/
theorem two_new (W : World) (a b : Value) (t : TypeId) : ∀ (j : Nat) (u : Value), [a, b][j]? = some u → (W.alloc (.cells #[a, b] t)).cell? ((⟨W.heap.size, 0, none⟩ : Addr).add j) = some u := by
  intro j u hu
  have hh := heap_alloc_new W (.cells #[a, b] t)
  obtain ⟨c0, c1⟩ := cells2 hh
  match j, hu with
  | 0, hu => simp at hu; subst hu; exact c0
  | 1, hu => simp at hu; subst hu; exact c1
def makeR (R1 R2 : Option Nat) (D : List Pi) : List Pi × Nat × Int := match R1 with
  | some n => ([], n, 91)
  | none => match R2 with
    | some n => ([], n, 130)
    | none => (D, 0, 0)
theorem make_eq (s : Say) (items cs : List Pi) : makeL s items cs = makeR (badI [] items) (badC items [] cs) (doneL s cs items) := rfl
def MIn (s : Say) (cs items : List Pi) (ws wr : World) (v : Value) (k : Nat) : Prop := wr.ownsRow ws.heap.size 51 2 v (doneL s cs (items.take k)).length (plC (doneL s cs (items.take k))) ∧ Below ws.heap.size ws wr
theorem cells7 {W : World} {B : Nat} {t : TypeId} {a b c d e f g : Value} (h : W.heap[B]? = some (.cells #[a, b, c, d, e, f, g] t (0, 0))) : W.cell? ⟨B, 0, none⟩ = some a ∧ W.cell? ⟨B, 1, none⟩ = some b ∧ W.cell? ⟨B, 2, none⟩ = some c ∧ W.cell? ⟨B, 3, none⟩ = some d ∧ W.cell? ⟨B, 4, none⟩ = some e ∧ W.cell? ⟨B, 5, none⟩ = some f ∧ W.cell? ⟨B, 6, none⟩ = some g := by simp [World.cell?, h]
theorem cells8 {W : World} {B : Nat} {t : TypeId} {a b c d e f g k : Value} (h : W.heap[B]? = some (.cells #[a, b, c, d, e, f, g, k] t (0, 0))) : W.cell? ⟨B, 0, none⟩ = some a ∧ W.cell? ⟨B, 1, none⟩ = some b ∧ W.cell? ⟨B, 2, none⟩ = some c ∧ W.cell? ⟨B, 3, none⟩ = some d ∧ W.cell? ⟨B, 4, none⟩ = some e ∧ W.cell? ⟨B, 5, none⟩ = some f ∧ W.cell? ⟨B, 6, none⟩ = some g ∧ W.cell? ⟨B, 7, none⟩ = some k := by simp [World.cell?, h]
theorem row_below {W W' : World} {B : Nat} {o : Obj} (h : W.heap[B]? = some o) (hb : Below W.heap.size W W') : W'.heap[B]? = some o := (hb.block B (Array.getElem?_eq_some_iff.1 h).1).trans h
set_option maxRecDepth 100000 in
set_option maxHeartbeats 6400000 in
theorem make_any (iv : Option Addr) (il ic : Nat) (jv : Option Addr) (jl jc : Nat) (mo : Option Addr) (mc : Nat) (M : List Pm) (pr fo : Int) (ba fa : Bool) (ao : Option Addr) (ca : Nat) (items : List Pi) (co : Option Addr) (cc : Nat) (cs : List Pi) (w : World)
    (he : NF.Env w) (hM : ArgM w mo mc M) (hI : ArgP w ao ca items) (hC : ArgP w co cc cs) :
    Calls Tryd.prog 16 #[.slice ao items.length ca, profV (.slice iv il ic) (.slice jv jl jc) mo M.length mc pr fo ba fa, .slice co cs.length cc] w (MakePost (makeL ⟨fo, pr, ba, fun q => decide (progL M q ≠ [])⟩ items cs) w) := by
  have CI : Hid (∀ W, Below w.heap.size w W → Calls Tryd.prog 27 #[.slice ao items.length ca] W (ReadPost items (badI [] items) W)) := Lib.hid (fun W hW => readItems_any items ao ca W (hI.below hW))
  have CC : Hid (∀ W bw nw Dw, Below w.heap.size w W → MapP W bw nw Dw items → Calls Tryd.prog 28 #[.slice co cs.length cc, .map (some bw)] W (ReadPost cs (badC items [] cs) W)) := Lib.hid (fun W bw nw Dw hW hm => readChoices_any items cs co cc bw nw Dw W (hC.below hW) hm)
  have CS : Hid (∀ W b i, SetAt W mo mc M b cs → i.1.length ≤ 1048576 → Calls Tryd.prog 29 #[setV (.slice iv il ic) (.slice jv jl jc) mo M.length mc pr fo ba fa b, itV i] W fun r w' => r = .returned (.int .i64 (settleL ⟨fo, pr, ba, fun q => decide (progL M q ≠ [])⟩ cs i)) ∧ Below W.heap.size W w') := Lib.hid (fun W b i h hp => settle_any (.slice iv il ic) (.slice jv jl jc) mo mc M pr fo ba fa b cs i W h hp)
  have HE := Lib.hid he
  have HM := Lib.hid hM
  have HI := Lib.hid hI
  have hlen := hI.len
  obtain ⟨s, hs⟩ : ∃ s : Say, (⟨fo, pr, ba, fun q => decide (progL M q ≠ [])⟩ : Say) = s := ⟨_, rfl⟩
  rw [hs] at CS ⊢
  obtain ⟨n, hn⟩ : ∃ n, items.length = n := ⟨_, rfl⟩
  have HN := Lib.hid hn
  obtain ⟨m, hm⟩ : ∃ m, cs.length = m := ⟨_, rfl⟩
  obtain ⟨nm, hnm⟩ : ∃ nm, M.length = nm := ⟨_, rfl⟩
  rw [hn] at CI hlen ⊢
  rw [hm] at CC ⊢
  rw [hnm] at CS ⊢
  unfold setV itV at CS
  unfold profV
  obtain ⟨R1, hR1⟩ : ∃ R, badI [] items = R := ⟨_, rfl⟩
  obtain ⟨R2, hR2⟩ : ∃ R, badC items [] cs = R := ⟨_, rfl⟩
  have hmk := make_eq s items cs
  rw [hR1, hR2] at hmk
  have HP : Hid (makeL s items cs = makeR R1 R2 (doneL s cs items)) := Lib.hid hmk
  clear hmk
  rw [hR1] at CI
  rw [hR2] at CC
  have A0 : Hid (Below w.heap.size w (w.alloc (.cells #[.slice iv il ic, .slice jv jl jc, .slice mo nm mc, .int .i64 pr, .int .i64 fo, .bool ba, .bool fa] 39))) := Lib.hid ((Below.refl _ _).alloc (Nat.le_refl _) _)
  obtain ⟨P, hP⟩ : ∃ P, makeL s items cs = P := ⟨_, rfl⟩
  rw [hP] at HP ⊢
  clear he hM hI hC hs hn hm hnm hR1 hR2 hP
  go_enter Tryd.func16, Tryd.ntmps16
  repeat (first | go_skip | go_guarded | go_step | go_upon)
  have hAr := heap_alloc_new w (.cells #[.slice iv il ic, .slice jv jl jc, .slice mo nm mc, .int .i64 pr, .int .i64 fo, .bool ba, .bool fa] 39)
  generalize w.alloc (.cells #[.slice iv il ic, .slice jv jl jc, .slice mo nm mc, .int .i64 pr, .int .i64 fo, .bool ba, .bool fa] 39) = wA at A0 hAr ⊢
  have HAr := Lib.hid hAr
  clear hAr
  have TR : Hid (∀ W, Below wA.heap.size wA W → Below w.heap.size w W) := Lib.hid (fun W hW => A0.out.trans (hW.mono A0.out.size))
  refine (CI.out _ A0.out).mono ?_
  cases R1 with
  | some k1 =>
    rintro r w1 ⟨hb1, rfl⟩
    simp only []
    have B1 : Hid (Below wA.heap.size wA w1) := Lib.hid hb1
    clear hb1
    have hk1 : (0 : Int) ≤ (k1 : Nat) := by omega
    repeat (first | go_skip | go_guarded | go_step | go_upon)
    go_ret3
    refine ⟨none, 0, by rw [HP.out]; rfl, by rw [HP.out]; exact LayP.nil _ _, fun _ => rfl, by rw [HP.out]; exact Nat.le_refl _, TR.out _ B1.out⟩
  | none =>
    rintro r w1 ⟨hb1, b1, n1, D1, rfl, hm1, hn1, hlo1⟩
    simp only []
    have B1 : Hid (Below wA.heap.size wA w1) := Lib.hid hb1
    have HM1 := Lib.hid hm1
    clear hm1 hn1 hlo1
    repeat (first | go_skip | go_guarded | go_step | go_upon)
    refine (CC.out _ _ _ _ (TR.out _ B1.out) HM1.out).mono ?_
    cases R2 with
    | some k1 =>
      rintro r w2 ⟨hb2, rfl⟩
      simp only []
      have B2 : Hid (Below wA.heap.size wA w2) := Lib.hid (B1.out.trans (hb2.mono B1.out.size))
      clear hb2
      have hk1 : (0 : Int) ≤ (k1 : Nat) := by omega
      repeat (first | go_skip | go_guarded | go_step | go_upon)
      go_ret3
      refine ⟨none, 0, by rw [HP.out]; rfl, by rw [HP.out]; exact LayP.nil _ _, fun _ => rfl, by rw [HP.out]; exact Nat.le_refl _, TR.out _ B2.out⟩
    | none =>
      rintro r w2 ⟨hb2, b2, n2, D2, rfl, hm2, hn2, hlo2⟩
      simp only []
      have B2 : Hid (Below wA.heap.size wA w2) := Lib.hid (B1.out.trans (hb2.mono B1.out.size))
      have HM2 := Lib.hid hm2
      clear hm2 hn2 hlo2
      have HP : Hid (P = (doneL s cs items, 0, 0)) := HP
      obtain ⟨x0, x1, x2, x3, x4, x5, x6⟩ := cells7 (row_below HAr.out B2.out)
      clear hb2
      repeat (first | go_skip | go_guarded | go_step | go_upon)
      have hs8 := heap_alloc_new w2 (.cells #[.slice iv il ic, .slice jv jl jc, .slice mo nm mc, .int .i64 pr, .int .i64 fo, .bool ba, .bool fa, .map (some b2)] 71)
      have hb8 : Below w2.heap.size w2 (w2.alloc (.cells #[.slice iv il ic, .slice jv jl jc, .slice mo nm mc, .int .i64 pr, .int .i64 fo, .bool ba, .bool fa, .map (some b2)] 71)) := (Below.refl _ _).alloc (Nat.le_refl _) _
      generalize w2.alloc (.cells #[.slice iv il ic, .slice jv jl jc, .slice mo nm mc, .int .i64 pr, .int .i64 fo, .bool ba, .bool fa, .map (some b2)] 71) = ws at hs8 hb8 ⊢
      have HS8 := Lib.hid hs8
      have BS : Hid (Below w.heap.size w ws) := Lib.hid ((TR.out _ B2.out).trans (hb8.mono (TR.out _ B2.out).size))
      have HST : Hid (SetAt ws mo mc M b2 cs) := Lib.hid ⟨HE.out.below BS.out, HM.out.below BS.out, n2, D2, HM2.out.below hb8⟩
      have h0 : Hid (MIn s cs items ws ws (.slice none 0 0) 0) := Lib.hid ⟨World.ownsRow_nil _ _ _ _, Below.refl _ _⟩
      clear hs8 hb8 x0 x1 x2 x3 x4 x5 x6
      go_loopw [13, 38] (fun s13 s38 wr => ∃ k : Nat, s38 = .int .i64 k ∧ k ≤ n ∧ MIn s cs items ws wr s13 k) (fun _ s38 _ => n - (Go.RowKit.intOf s38).toNat)
      case atStart => exact ⟨0, rfl, Nat.zero_le _, h0.out⟩
      case round =>
        obtain ⟨k, rfl, hk, ho, hb⟩ := hrel
        have HO := Lib.hid ho
        have HB := Lib.hid hb
        clear ho hb
        by_cases hlt : k < n
        · have hkz : (k : Int) < n := by omega
          obtain ⟨g, o, rfl, hg, hc⟩ := (HI.out.below (BS.out.trans (HB.out.mono BS.out.size))).lay (by rw [HN.out]; omega)
          obtain ⟨⟨p, v⟩, hx⟩ : ∃ x, items[k]? = some x := ⟨items[k]'(by rw [HN.out]; exact hlt), List.getElem?_eq_getElem _⟩
          have hps : p.length ≤ 1048576 := HI.out.small (p, v) (List.mem_of_getElem? hx)
          obtain ⟨a0, a1⟩ := hc k _ hx
          simp only at a0 a1
          unfold txt at a0
          have HX := Lib.hid (done_step s cs items hx)
          have HPs := Lib.hid hps
          clear hc hx hps
          by_cases h1 : v = 1
          · subst h1
            have HN1 : Hid (MIn s cs items ws (wr.alloc (.cells #[.string ⟨p.toArray⟩, .int .i64 1] 34)) u13 (k + 1)) := Lib.hid ⟨by rw [HX.out, if_pos rfl, List.append_nil]; exact HO.out.alloc _, HB.out.alloc HB.out.size _⟩
            repeat (first | go_skip | go_guarded | go_step | go_upon)
            exact ⟨⟨k + 1, by go_num, by omega, HN1.out⟩, by simp [Go.RowKit.intOf]; omega⟩
          · have z1 : (v != 1) = true := by simpa using h1
            have HX2 : Hid (doneL s cs (items.take (k + 1)) = doneL s cs (items.take k) ++ [(p, settleL s cs (p, v))]) := Lib.hid (by rw [HX.out, if_neg h1])
            clear h1 HX
            repeat (first | go_skip | go_guarded | go_step | go_upon)
            have hi2 := heap_alloc_new wr (.cells #[.string ⟨p.toArray⟩, .int .i64 v] 34)
            have hbi : Below wr.heap.size wr (wr.alloc (.cells #[.string ⟨p.toArray⟩, .int .i64 v] 34)) := (Below.refl _ _).alloc (Nat.le_refl _) _
            have HOi := Lib.hid (HO.out.alloc (.cells #[.string ⟨p.toArray⟩, .int .i64 v] 34))
            have HBi : Hid (Below ws.heap.size ws (wr.alloc (.cells #[.string ⟨p.toArray⟩, .int .i64 v] 34))) := Lib.hid (HB.out.alloc HB.out.size _)
            have h8 := row_below (row_below HS8.out HB.out) hbi
            generalize wr.alloc (.cells #[.string ⟨p.toArray⟩, .int .i64 v] 34) = wi at hi2 hbi HOi HBi h8 ⊢
            clear a0 a1 hbi
            have HSTi := Lib.hid (HST.out.below HBi.out)
            obtain ⟨F, hF⟩ : ∃ F, settleL s cs (p, v) = F := ⟨_, rfl⟩
            have C5 := CS.out wi.drew b2 (p, v) (HSTi.out.below (Below.refl _ _).drew) HPs.out
            simp only [hF] at C5
            rw [hF] at HX2
            have HC5 := Lib.hid C5
            clear C5 hF
            refine wp_region_noPanic ?_
            with_reducible refine QT.region_mix (S := fun W' => W'.heap[w2.heap.size]? = some (.cells #[.slice iv il ic, .slice jv jl jc, .slice mo nm mc, .int .i64 pr, .int .i64 fo, .bool ba, .bool fa, .map (some b2)] 71 (0, 0)) ∧ W'.heap[wr.heap.size]? = some (.cells #[.string ⟨p.toArray⟩, .int .i64 v] 34 (0, 0))) [(true, 0), (true, 1), (true, 2), (true, 3), (true, 4), (false, 5), (true, 6), (false, 7)] 8 (by kernel_rfl) (by kernel_rfl) ?_ ?_ ?_
            · exact fun _ _ _ _ _ h => h
            · exact ⟨h8, hi2⟩
            intro _
            simp only [QT.pickM, List.filterMap_cons, List.filterMap_nil, List.getElem?_cons_succ, List.getElem?_cons_zero, Option.map_some, List.drop_succ_cons, List.drop_zero]
            iterate 5 (refine QT.wpMix_take _ (by rfl) (by intro w' hSw; obtain ⟨x0, x1, x2, x3, x4, x5, x6, x7⟩ := cells8 hSw.1; obtain ⟨y0, y1⟩ := cells2 hSw.2; go_simp; first | done | rfl) ?_; try simp only [Act.put, List.setIfInBounds_toArray, List.set_cons_zero, List.set_cons_succ])
            intro K' hK
            rw [if_pos (by rfl)]
            go_simp
            refine HC5.out.mono ?_
            rintro r w5 ⟨rfl, hb5⟩
            simp only []
            have HB5 : Hid (Below wi.heap.size wi w5) := Lib.hid ((Below.refl _ _).drew.trans hb5)
            clear hb5
            refine hK.out _ _ ⟨row_below h8 HB5.out, row_below hi2 HB5.out⟩ ?_
            clear hK K'
            try simp only [Act.put, List.setIfInBounds_toArray, List.set_cons_zero, List.set_cons_succ]
            refine QT.wpMix_take _ (by rfl) (by intro w' hSw; go_simp; first | done | rfl) ?_
            try simp only [Act.put, List.setIfInBounds_toArray, List.set_cons_zero, List.set_cons_succ]
            intro K' hK
            rw [if_pos (by rfl)]
            go_simp
            refine hK.out _ _ ⟨row_below (row_below h8 HB5.out) ((Below.refl _ _).alloc (Nat.le_refl _) _), row_below (row_below hi2 HB5.out) ((Below.refl _ _).alloc (Nat.le_refl _) _)⟩ ?_
            clear hK K'
            try simp only [Act.put, List.setIfInBounds_toArray, List.set_cons_zero, List.set_cons_succ]
            refine QT.wpMix_nil ?_
            have HO5 := Lib.hid (owns_below HOi.out HB5.out)
            have HBw := Lib.hid (HBi.out.trans (HB5.out.mono HBi.out.size))
            have hbs5 := HBw.out.size
            have HDl : Hid ((doneL s cs (items.take k)).length ≤ 1048576) := Lib.hid (by
              have := done_len s cs (items.take k)
              rw [List.length_take, HN.out] at this
              omega)
            obtain ⟨i0, hi, hz0, hz1, hz2⟩ := info_parts infoC
            clear h8 hi2
            repeat (first
              | (at_builtin; refine wpList_append_own _ rfl _ _ 40 rfl ws.heap.size 51 i0 (.agg #[.string ⟨#[]⟩, .int .i64 0]) 2 24 Tryd.underlying40 hi hz0 hz1 hz2 rfl (by decide) _ _ _ rfl (HO5.out.alloc _) ⟨w5.heap.size, 0, none⟩ 1 1 [.string ⟨p.toArray⟩, .int .i64 F] rfl rfl (two_new _ _ _ _) (by simp [Value.oneCell']) (by have := HDl.out; unfold maxLen; omega) (by have := HDl.out; omega) (by simp; omega) ?_; intro v' w6 ho6 hg6 _; have HO6 := Lib.hid ho6; have HB6 := Lib.hid ((HBw.out.alloc hbs5 _).grown hg6 (by simp; omega) (fun j hj => (HO5.out.lt j hj).1)); clear ho6 hg6)
              | go_skip | go_guarded | go_step | go_upon)
            refine NoPanic.normal ?_
            have HN1 : Hid (MIn s cs items ws w6 v' (k + 1)) := Lib.hid ⟨by
              rw [HX2.out, plC_snoc, List.length_append]
              exact HO6.out, HB6.out⟩
            repeat (first | go_skip | go_guarded | go_step | go_upon)
            exact ⟨⟨k + 1, by go_num, by omega, HN1.out⟩, by simp [Go.RowKit.intOf]; omega⟩
        · obtain rfl : k = n := by omega
          have ht : items.take k = items := by rw [← HN.out]; exact List.take_length
          have ho := HO.out
          rw [ht] at ho
          obtain ⟨ao, c, rfl, hl⟩ := lay_pl ho
          have hac : Hid ((ao = none → c = 0) ∧ (doneL s cs items).length ≤ c) := Lib.hid (by
            rcases ho.2 with ⟨e1, e2⟩ | ⟨g, cap, cur, e1, _, _, hcap, _, _⟩
            · injection e1 with e1 e3 e4
              subst e1
              exact ⟨fun _ => e4, by omega⟩
            · injection e1 with e1 e3 e4
              subst e1
              rw [e4]
              exact ⟨(fun e => by cases e), hcap⟩)
          have HL := Lib.hid hl
          clear ho ht hl
          repeat (first | go_skip | go_guarded | go_step | go_upon)
          go_ret3
          refine ⟨ao, c, by rw [HP.out]; rfl, by rw [HP.out]; exact HL.out, hac.out.1, by rw [HP.out]; exact hac.out.2, BS.out.trans (HB.out.mono BS.out.size)⟩
end PR
end Go.Proofs.YtechekdiadpmoaaDoor
