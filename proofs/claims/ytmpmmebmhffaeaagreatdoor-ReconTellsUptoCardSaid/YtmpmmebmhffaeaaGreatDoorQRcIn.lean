/- Layer 12: the contract of inside: what stands right in a value, by last names. -/
import Derived.Test.YtmpmmebmhffaeaaGreatDoorQRcA
import Derived.Test.YtmpmmebmhffaeaaGreatDoorQArMake
import Derived.Test.YtmpmmebmhffaeaaGreatDoorQForks
import Derived.Maps.AppendAt
set_option linter.all false
set_option maxRecDepth 100000
set_option maxHeartbeats 25600000
namespace Go.Proofs.YtmpmmebmhffaeaaGreatDoor
open Go.RowKit Go.Lib Go.Maps Go.BigFrame
namespace RC
open OM TP TM TR TG

theorem take_while_first : ∀ (s : List UInt8) (i : Nat), s[i]? = some 47 → (∀ k, k < i → s[k]? ≠ some 47) → s.take i = s.takeWhile (fun c => decide (c ≠ 47))
  | [], i, h, _ => by simp at h
  | x :: s, 0, h, _ => by
    simp at h
    subst h
    rfl
  | x :: s, i + 1, h, hk => by
    have hx : x ≠ 47 := fun e => hk 0 (by omega) (by simp [e])
    rw [List.take_succ_cons, List.takeWhile_cons, if_pos (by simpa using hx), take_while_first s i (by simpa using h) (fun k hlt => by simpa using hk (k + 1) (by omega))]
theorem take_while_none : ∀ (s : List UInt8), (∀ k : Nat, s[k]? ≠ some 47) → s = s.takeWhile (fun c => decide (c ≠ 47))
  | [], _ => rfl
  | x :: s, hk => by
    have hx : x ≠ 47 := fun e => hk 0 (by simp [e])
    rw [List.takeWhile_cons, if_pos (by simpa using hx), ← take_while_none s (fun k => by simpa using hk (k + 1))]
theorem cut_first (s : List UInt8) : (Lib.cut s [47]).1 = s.takeWhile (fun c => decide (c ≠ 47)) := by
  unfold Lib.cut
  rw [Lib.index_one]
  by_cases h : 0 ≤ Lib.indexByte s 47
  · rw [if_pos h]
    obtain ⟨o, ho⟩ : ∃ o : Nat, Lib.indexByte s 47 = o := ⟨(Lib.indexByte s 47).toNat, by omega⟩
    obtain ⟨h1, h2⟩ := Lib.indexByte_some ho
    rw [ho]
    exact take_while_first s _ h1 h2
  · rw [if_neg h]
    exact take_while_none s (Lib.indexByte_none (by have := Lib.indexByte_ge s 47; omega))
/-- The path of the first. -/
def hdP : List Nd → List UInt8
  | [] => []
  | h :: _ => h.path
/-- What the first k are told to. -/
def grpK (v : List Nd) (k : Nat) : List UInt8 → List Nd := fun q => ((v.take k).drop 1).filter fun n => decide (keyL (hdP v).length n.path = q)
theorem grpK_zero (v : List Nd) : grpK v 0 = fun _ => [] := by
  funext q
  unfold grpK
  simp
theorem grpK_one (v : List Nd) : grpK v 1 = fun _ => [] := by
  funext q
  unfold grpK
  cases v <;> simp
theorem grpK_succ {v : List Nd} {k : Nat} {x : Nd} (hk : 0 < k) (hx : v[k]? = some x) : grpK v (k + 1) = fun q => if q = keyL (hdP v).length x.path then grpK v k (keyL (hdP v).length x.path) ++ [x] else grpK v k q := by
  funext q
  have hlen := (List.getElem?_eq_some_iff.1 hx).1
  have e : (v.take (k + 1)).drop 1 = (v.take k).drop 1 ++ [x] := by
    rw [List.take_add_one, hx, Option.toList_some, List.drop_append_of_le_length (by rw [List.length_take]; omega)]
  unfold grpK
  rw [e, List.filter_append]
  by_cases hq : q = keyL (hdP v).length x.path
  · rw [if_pos hq, ← hq]
    simp [hq]
  · rw [if_neg hq]
    have : ¬ keyL (hdP v).length x.path = q := fun e => hq e.symm
    simp [this]
theorem grpK_all (v : List Nd) : grpK v v.length = subL v := by
  funext q
  unfold grpK
  rw [List.take_length]
  cases v <;> rfl
theorem grpK_len (v : List Nd) (k : Nat) (q : List UInt8) : (grpK v k q).length ≤ k := by
  unfold grpK
  have h := List.length_filter_le (fun n : Nd => decide (keyL (hdP v).length n.path = q)) ((v.take k).drop 1)
  rw [List.length_drop, List.length_take] at h
  omega
theorem trim_txt (X S T : ByteArray) (l p : List UInt8) (hX : X.data.toList = l) (hS : S.data.toList = p) (hT : T.data.toList = Lib.trimPrefix l p) (W : World) :
    Calls Tryz.prog 40 #[.string X, .string S] W fun e w' => e = .returned (.string T) ∧ w' = W := by
  have := Tryz.strings_TrimPrefix X S W
  rw [hX, hS, ← hT, show (⟨T.data.toList.toArray⟩ : ByteArray) = T by apply ByteArray.ext; simp] at this
  exact this
theorem cut_txt (X T : ByteArray) (l : List UInt8) (hX : X.data.toList = l) (hT : T.data.toList = l.takeWhile (fun c => decide (c ≠ 47))) (hl : X.size ≤ 1048576) (W : World) (hm : ∃ m, W.cell? ⟨0, 0, none⟩ = some (.int .i64 m)) :
    Calls Tryz.prog 59 #[.string X, .string ⟨#[47]⟩] W fun e w' => ∃ b c n, e = .returned (.tuple #[.string T, b, c]) ∧ w' = W.drewN n := by
  obtain ⟨m, hm⟩ := hm
  refine (Tryz.strings_Cut X ⟨#[47]⟩ m W (by omega) hm).mono ?_
  rintro e w' ⟨rfl, n, rfl⟩
  refine ⟨.string ⟨(Lib.cut X.data.toList (ByteArray.mk #[47]).data.toList).2.1.toArray⟩, .bool (Lib.cut X.data.toList (ByteArray.mk #[47]).data.toList).2.2, n, ?_, rfl⟩
  rw [show (⟨(Lib.cut X.data.toList (ByteArray.mk #[47]).data.toList).1.toArray⟩ : ByteArray) = T from ?_]
  apply ByteArray.ext
  apply Array.ext'
  rw [hT, ← hX]
  exact cut_first _
theorem nodesZero (w : World) : (zeroValue 22).run Tryz.prog w = .ok nilS w := by kernel_rfl
theorem cell_heap {W W' : World} (h : W'.heap = W.heap) (p : Addr) : W'.cell? p = W.cell? p := by
  unfold World.cell?
  rw [h]
set_option maxRecDepth 100000 in
set_option maxHeartbeats 6400000 in
theorem inside_any (ao : Option Addr) (cap : Nat) (v : List Nd) (w : World) (he : NF.Env w) (h : LayN w ao v) (hl : v.length ≤ 1001) (hs : SmallG v) (hp : ∀ x ∈ v, (hdP v).length ≤ x.path.length) :
    Calls Tryz.prog 38 #[.slice ao v.length cap] w fun r w' => ∃ D n, r = .returned (.map (some w.heap.size)) ∧ n ≤ v.length ∧ Grp w' (w.heap.size + 1) w.heap.size n D (subL v) ∧ Below w.heap.size w w' := by
  obtain ⟨i0, hi, hz0, hz1, hz2⟩ : ∃ i0, Tryz.prog.info? 40 = some i0 ∧ i0.zero = some (ndVal zeroN) ∧ i0.size = 4 ∧ i0.bytes = 48 := by
    have := infoN
    cases e : Tryz.prog.info? 40 with
    | none => rw [e] at this; cases this
    | some i0 =>
      rw [e] at this
      simp only [Option.map_some, Option.some.injEq, Prod.mk.injEq] at this
      exact ⟨i0, rfl, this.1, this.2.1, this.2.2⟩
  obtain ⟨N, hN⟩ : ∃ N, v.length = N := ⟨_, rfl⟩
  have HN := Lib.hid hN
  have HL := Lib.hid h
  have HE := Lib.hid he
  have HS := Lib.hid hs
  have HP := Lib.hid hp
  rw [hN] at hl ⊢
  clear h he hs hp hN
  have hmm := @run_makeMap Tryz.prog
  go_enter Tryz.func38, Tryz.ntmps38
  have G0 := Lib.hid (grp_made w)
  have B0 : Hid (Below w.heap.size w (w.alloc (.map #[] 0))) := Lib.hid ((Below.refl _ _).alloc (Nat.le_refl _) _)
  repeat (first | go_skip | go_guarded | go_step | go_upon)
  clear hmm
  go_loopw [12] (fun s12 wr => ∃ (k n : Nat) (D : DataW Value), s12 = .int .i64 k ∧ k ≤ N ∧ n ≤ k ∧ Grp wr (w.heap.size + 1) w.heap.size n D (grpK v k) ∧ Below w.heap.size w wr ∧ w.heap.size + 1 ≤ wr.heap.size) (fun s12 _ => N - (Go.RowKit.intOf s12).toNat)
  case atStart => exact ⟨0, 0, _, rfl, Nat.zero_le _, Nat.le_refl _, by rw [grpK_zero]; exact G0.out, B0.out, by simp⟩
  case round =>
    obtain ⟨k, n, D, rfl, hk, hnk, hg, hb, hsz⟩ := hrel
    have HG := Lib.hid hg
    have HB := Lib.hid hb
    have hbs := hb.size
    have hLr := HL.out.below hb
    clear hg hb
    by_cases hlt : k < N
    · have hkz : (k : Int) < N := by omega
      obtain ⟨g, o, rfl, hg, hcell⟩ := hLr (by rw [HN.out]; omega)
      obtain ⟨x, hx⟩ : ∃ x, v[k]? = some x := ⟨v[k]'(by rw [HN.out]; exact hlt), List.getElem?_eq_getElem _⟩
      obtain ⟨y, hy⟩ : ∃ y, v[0]? = some y := ⟨v[0]'(by rw [HN.out]; omega), List.getElem?_eq_getElem _⟩
      obtain ⟨c0, c1, c2, c3⟩ := hcell k x hx
      obtain ⟨y0, -, -, -⟩ := hcell 0 y hy
      rw [Nat.zero_mul, Nat.add_zero] at y0
      obtain ⟨X, hX, hXd⟩ := txt_of x.path
      obtain ⟨E, hE, _⟩ := txt_of x.data
      obtain ⟨H, hH, hHd⟩ := txt_of y.path
      rw [hX] at c0
      rw [hE] at c2
      rw [hH] at y0
      have hhd : hdP v = y.path := by
        cases hv : v with
        | nil => rw [hv] at hy; simp at hy
        | cons a r => rw [hv] at hy; simp at hy; rw [hy]; rfl
      by_cases hk0 : k = 0
      · have hkp : ¬ (k : Int) > 0 := by omega
        have hkd : decide ((k : Int) > 0) = false := decide_eq_false hkp
        subst hk0
        rw [Nat.zero_mul, Nat.add_zero] at c0 c1 c2 c3
        clear y0
        repeat (first | go_skip | go_guarded | go_step | go_upon)
        refine ⟨⟨1, n, D, by go_num, by omega, by omega, ?_, HB.out.alloc hbs _, by simp; omega⟩, by simp [Go.RowKit.intOf]; omega⟩
        rw [grpK_one, ← grpK_zero v]
        exact HG.out.kept (World.grownBy_alloc _ _ _)
      · have hkp : (k : Int) > 0 := by omega
        repeat (first | go_skip | go_guarded | go_step | go_upon)
        obtain ⟨T1, hT1, hT1d⟩ := txt_of (x.path.drop y.path.length)
        obtain ⟨T2, hT2, hT2d⟩ := txt_of (Lib.trimPrefix (x.path.drop y.path.length) [47])
        obtain ⟨T, hT, hTd⟩ := txt_of (keyL (hdP v).length x.path)
        have hxm : x ∈ v := List.mem_of_getElem? hx
        have hpl := HP.out x hxm
        rw [hhd] at hpl hTd
        have hXs : X.size = x.path.length := by rw [Lib.size_eq, hXd]
        have hHs : H.size = y.path.length := by rw [Lib.size_eq, hHd]
        have hex : X.extract y.path.length x.path.length = T1 := by
          have e1 : X.extract y.path.length x.path.length = X.extract y.path.length X.size := by rw [hXs]
          rw [e1]
          apply ByteArray.ext
          apply Array.ext'
          rw [hT1d, ← hXd]
          refine (Lib.extract_data _ _ _).trans ?_
          rw [List.take_of_length_le (by have := Lib.size_eq X; (simp only [List.length_drop] <;> omega))]
        have hT2s : T2.size ≤ 1048576 := by
          have := (HS.out x hxm).1
          have h2 : (Lib.trimPrefix (x.path.drop y.path.length) [47]).length ≤ (x.path.drop y.path.length).length := by
            unfold Lib.trimPrefix
            split
            · rw [List.length_drop]; omega
            · exact Nat.le_refl _
          rw [Lib.size_eq, hT2d]
          rw [List.length_drop] at h2
          omega
        have hN0 : (0 : Int) < N := by omega
        have CT := Lib.hid (trim_txt T1 ⟨#[47]⟩ T2 _ [47] hT1d rfl hT2d)
        have CC := Lib.hid (fun W hm => cut_txt T2 T _ hT2d hTd hT2s W hm)
        obtain ⟨wn, hwn⟩ : ∃ wn, wr.alloc (.cells #[.string X, .int .i64 x.kind, .string E, .int .i64 x.mode] 40) = wn := ⟨_, rfl⟩
        have rn : wn.heap[wr.heap.size]? = some (.cells #[.string X, .int .i64 x.kind, .string E, .int .i64 x.mode] 40 (0, 0)) := by rw [← hwn]; exact heap_alloc_new _ _
        have yn : wn.cell? ⟨g, o, none⟩ = some (.string H) := by rw [← hwn]; exact (World.cell?_alloc_past (w := wr) _ g o hg).trans y0
        have BN : Hid (Below w.heap.size w wn) := Lib.hid (by rw [← hwn]; exact HB.out.alloc hbs _)
        have GN : Hid (Grp wn (w.heap.size + 1) w.heap.size n D (grpK v k)) := Lib.hid (by rw [← hwn]; exact HG.out.kept (World.grownBy_alloc _ _ _))
        have sn : wn.heap.size = wr.heap.size + 1 := by rw [← hwn]; simp
        rw [hwn]
        clear hwn
        obtain ⟨q0, q1, q2, q3, qf⟩ := cell4 rn
        have RN := Lib.hid rn
        refine wp_region_noPanic ?_
        with_reducible refine QT.region_mix (S := fun w' => w'.heap = wn.heap) [(true, 0), (true, 1), (true, 2), (true, 3), (true, 4), (true, 5), (true, 6), (true, 7), (false, 8), (false, 9), (true, 10), (true, 11), (true, 12), (true, 13), (true, 14), (true, 15)] 16 (by kernel_rfl) (by kernel_rfl) ?_ ?_ ?_
        · exact fun _ _ _ _ _ h => h
        · rfl
        intro _
        simp only [QT.pickM, List.filterMap_cons, List.filterMap_nil, List.getElem?_cons_succ, List.getElem?_cons_zero, Option.map_some, List.drop_succ_cons, List.drop_zero]
        have hNb : decide ((0 : Int) < N) = true := decide_eq_true hN0
        iterate 3 (refine QT.wpMix_take _ (by rfl) (by intro w' hSw; have z0 : w'.cell? ⟨wr.heap.size, 0, none⟩ = some (.string X) := (cell_heap hSw _).trans q0; have z1 : w'.cell? ⟨g, o, none⟩ = some (.string H) := (cell_heap hSw _).trans yn; go_simp; first | done | rfl) ?_; try simp only [Act.put, List.setIfInBounds_toArray, List.set_cons_zero, List.set_cons_succ])
        refine QT.wpMix_take (.pointer (some ⟨g, o, none⟩)) (by rfl) (by intro w' hSw; go_simp; exact fun e => absurd e (by omega)) ?_
        try simp only [Act.put, List.setIfInBounds_toArray, List.set_cons_zero, List.set_cons_succ]
        iterate 3 (refine QT.wpMix_take _ (by rfl) (by intro w' hSw; have z0 : w'.cell? ⟨wr.heap.size, 0, none⟩ = some (.string X) := (cell_heap hSw _).trans q0; have z1 : w'.cell? ⟨g, o, none⟩ = some (.string H) := (cell_heap hSw _).trans yn; go_simp; first | done | rfl) ?_; try simp only [Act.put, List.setIfInBounds_toArray, List.set_cons_zero, List.set_cons_succ])
        refine QT.wpMix_take (.string T1) (by rfl) (by intro w' hSw; go_simp; first | done | exact hex) ?_
        try simp only [Act.put, List.setIfInBounds_toArray, List.set_cons_zero, List.set_cons_succ]
        intro K' hK
        rw [if_pos (by rfl)]
        go_simp
        refine (CT.out _).mono ?_
        rintro r w2 ⟨rfl, rfl⟩
        simp only []
        refine hK.out _ _ rfl ?_
        clear hK K'
        try simp only [Act.put, List.setIfInBounds_toArray, List.set_cons_zero, List.set_cons_succ]
        intro K' hK
        rw [if_pos (by rfl)]
        go_simp
        refine (CC.out _ (HE.out.below BN.out.drew).maxl).mono ?_
        rintro r w2 ⟨p1, p2, dn, rfl, rfl⟩
        simp only []
        refine hK.out _ _ rfl ?_
        clear hK K'
        try simp only [Act.put, List.setIfInBounds_toArray, List.set_cons_zero, List.set_cons_succ]
        iterate 6 (refine QT.wpMix_take _ (by rfl) (by intro w' hSw; go_simp; first | done | rfl) ?_; try simp only [Act.put, List.setIfInBounds_toArray, List.set_cons_zero, List.set_cons_succ])
        refine QT.wpMix_nil ?_
        repeat (first | go_skip | go_guarded | go_step | go_upon)
        refine NoPanic.normal ?_
        have rd : ((wn.drew).drewN dn).heap[wr.heap.size]? = some (.cells #[.string X, .int .i64 x.kind, .string E, .int .i64 x.mode] 40 (0, 0)) := RN.out
        have B5 : Hid (Below w.heap.size w ((wn.drew).drewN dn)) := Lib.hid (Below.trans BN.out.drew ⟨rfl, rfl, rfl, Nat.le_refl _, fun _ _ => rfl⟩)
        have G5 : Hid (Grp ((wn.drew).drewN dn) (w.heap.size + 1) w.heap.size n D (grpK v k)) := Lib.hid (GN.out.kept ⟨rfl, rfl, rfl, Nat.le_refl _, fun _ _ _ => rfl⟩)
        have s5 : ((wn.drew).drewN dn).heap.size = wr.heap.size + 1 := sn
        obtain ⟨w5, hw5⟩ : ∃ w5, (wn.drew).drewN dn = w5 := ⟨_, rfl⟩
        rw [hw5] at rd B5 G5 s5
        rw [hw5]
        clear hw5 RN yn q0 q1 q2 q3 qf BN GN sn rn
        obtain ⟨d0, d1, d2, d3, df⟩ := cell4 rd
        have HNew : Hid (∀ (j : Nat) (u : Value), (ndCells x)[j]? = some u → (w5.alloc (.cells #[.string X, .int .i64 x.kind, .string E, .int .i64 x.mode] 40)).cell? ((⟨wr.heap.size + 1, 0, none⟩ : Addr).add j) = some u) := Lib.hid (four_new w5 _ s5.symm x _ _ hX hE _)
        have G6 : Hid (Grp (w5.alloc (.cells #[.string X, .int .i64 x.kind, .string E, .int .i64 x.mode] 40)) (w.heap.size + 1) w.heap.size n D (grpK v k)) := Lib.hid (G5.out.kept (World.grownBy_alloc _ _ _))
        have B6 : Hid (Below w.heap.size w (w5.alloc (.cells #[.string X, .int .i64 x.kind, .string E, .int .i64 x.mode] 40))) := Lib.hid (B5.out.alloc (by omega) _)
        have hKY := Lib.hid (keyS T (by
          have := (HS.out x hxm).1
          have h3 : (keyL y.path.length x.path).length ≤ x.path.length := by
            unfold keyL
            have h4 : ((Lib.trimPrefix (x.path.drop y.path.length) [47]).takeWhile (fun c => decide (c ≠ 47))).length ≤ (Lib.trimPrefix (x.path.drop y.path.length) [47]).length := (List.takeWhile_prefix _).length_le
            rw [← hT2d, ← Lib.size_eq] at h4
            have h5 : T2.size ≤ x.path.length := by
              rw [Lib.size_eq, hT2d]
              unfold Lib.trimPrefix
              split <;> simp only [List.length_drop] <;> omega
            rw [← hT2d]
            exact Nat.le_trans h4 h5
          rw [Lib.size_eq, hTd]
          unfold maxLen
          omega))
        have HK := Lib.hid (grpK_succ (by omega : 0 < k) hx)
        rw [hhd] at HK
        rw [hTd] at hKY
        have HKl := Lib.hid (grpK_len v k (keyL y.path.length x.path))
        repeat (first
          | (at_lookup; refine wpList_lookup_held _ rfl _ _ _ rfl _ _ lawS Tryz.underlying45 nilS (nodesZero _) w.heap.size n D rfl G5.out.map (.string T) (.string (keyL y.path.length x.path)) rfl hKY.out ?_; intro vv hvv; have HV := Lib.hid hvv; clear hvv)
          | (at_builtin; refine wpList_append_own_at _ rfl _ _ 22 rfl (w.heap.size + 1) 40 i0 (ndVal zeroN) 4 48 Tryz.underlying22 hi hz0 hz1 hz2 rfl (by decide) vv _ _ rfl (G6.out.own _ _ HV.out) ⟨wr.heap.size + 1, 0, none⟩ 1 1 (ndCells x) rfl rfl HNew.out (nd_one _) (by have := HKl.out; unfold maxLen; omega) (by have := HKl.out; omega) (by simp; omega) ?_; intro v' w7 ho7 hg7 _ hl7; have HO7 := Lib.hid ho7; have HG7 := Lib.hid hg7; have HL7 := Lib.hid hl7; clear ho7 hg7 hl7)
          | (at_mapUpdate; obtain ⟨w8, hr8, g8, b8⟩ := G6.out.put (by unfold maxLen; omega) (keyL y.path.length x.path) HV.out Tryz.underlying45 hKY.out (grpK v k (keyL y.path.length x.path) ++ [x]) (by simp) HG7.out (by rw [List.length_append, List.length_singleton, nodes_snoc]; exact HO7.out) (HL7.out.imp id (fun e => ⟨_, e, Nat.le_refl _⟩)); refine wpList_update_run _ w8 rfl _ _ _ _ rfl (.map (some w.heap.size)) (.string T) v' rfl rfl rfl hr8 ?_; have R8 := Lib.hid g8; have P8 := Lib.hid b8; clear hr8 g8 b8)
          | go_skip | go_guarded | go_step | go_upon)
        have B7 := B6.out.grown HG7.out (by simp; omega) (fun j hj => by have := ((G6.out.own _ _ HV.out).lt j hj).1; omega)
        have B8 := B7.grown P8.out (by have := HG7.out.size; simp at this; omega) (fun j hj => by injection hj with hj; omega)
        refine ⟨⟨k + 1, n + 1, _, by go_num, by omega, by omega, by rw [HK.out]; exact R8.out, B8, ?_⟩, by simp [Go.RowKit.intOf]; omega⟩
        have h1 := HG7.out.size
        have h2 := P8.out.size
        simp at h1
        omega
    · have hkz : ¬ (k : Int) < N := by omega
      have hkq : k = N := by omega
      have HK := Lib.hid (grpK_all v)
      clear hlt
      repeat (first | go_skip | go_guarded | go_step | go_upon)
      go_ret
      exact ⟨D, n, rfl, by omega, by rw [← HK.out, HN.out, ← hkq]; exact HG.out, HB.out⟩
end RC
end Go.Proofs.YtmpmmebmhffaeaaGreatDoor
