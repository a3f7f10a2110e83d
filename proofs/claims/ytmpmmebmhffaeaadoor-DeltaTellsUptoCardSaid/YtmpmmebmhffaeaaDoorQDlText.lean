/- Layer 14: what a step tells: isText, isCopy, textOf; New. -/
import Derived.Test.YtmpmmebmhffaeaaDoorQDlMake
set_option linter.all false
set_option maxRecDepth 100000
set_option maxHeartbeats 25600000
namespace Go.Proofs.YtmpmmebmhffaeaaDoor
open Go.RowKit Go.Lib Go.BigFrame Go.Maps
namespace DM
open OM DL HP HS

theorem nil_eq (T : ByteArray) : (T.toList == ([] : List UInt8)) = decide (T.data.toList = []) := by
  rw [Lib.toList_data]
  cases T.data.toList <;> rfl
set_option maxRecDepth 100000 in
set_option maxHeartbeats 1600000 in
theorem isText_any (F C : Int) (T : ByteArray) (w : World) :
    Calls Tryd.prog 42 #[.agg #[.int .i64 F, .int .i64 C, .string T]] w fun r w' => r = .returned (.bool (okT (F, C, T.data.toList))) ∧ Below w.heap.size w w' := by
  have HB : Hid (Below w.heap.size w (w.alloc (.cells #[.int .i64 F, .int .i64 C, .string T] 46))) := Lib.hid ((Below.refl _ _).alloc (Nat.le_refl _) _)
  obtain ⟨d, hd⟩ : ∃ d, okT (F, C, T.data.toList) = d := ⟨_, rfl⟩
  rw [hd]
  unfold okT at hd
  simp only at hd
  by_cases hF : F = 0
  · have hq : (F == 0) = true := by simp [hF]
    by_cases hC : C = 0
    · have hq2 : (C == 0) = true := by simp [hC]
      have hd2 : decide (T.data.toList ≠ []) = d := by rw [← hd]; simp [hF, hC]
      have hne : (!T.toList.isEmpty) = d := by rw [← hd2, Lib.toList_data]; cases T.data.toList <;> rfl
      clear hd hd2 hF hC
      go_enter Tryd.func42, Tryd.ntmps42
      repeat (first | go_skip | go_guarded | go_step | go_upon)
      go_ret
      exact ⟨rfl, HB.out⟩
    · have hq2 : (C == 0) = false := by simp [hC]
      have hd2 : d = false := by rw [← hd]; simp [hC]
      subst hd2
      clear hd hF
      go_enter Tryd.func42, Tryd.ntmps42
      repeat (first | go_skip | go_guarded | go_step | go_upon)
      go_ret
      exact ⟨rfl, HB.out⟩
  · have hq : (F == 0) = false := by simp [hF]
    have hd2 : d = false := by rw [← hd]; simp [hF]
    subst hd2
    clear hd
    go_enter Tryd.func42, Tryd.ntmps42
    repeat (first | go_skip | go_guarded | go_step | go_upon)
    go_ret
    exact ⟨rfl, HB.out⟩
set_option maxRecDepth 100000 in
set_option maxHeartbeats 3200000 in
theorem isCopy_any (F C : Int) (T : ByteArray) (nb : Nat) (w : World) (hn : nb ≤ 1048576) :
    Calls Tryd.prog 43 #[.agg #[.int .i64 F, .int .i64 C, .string T], .int .i64 nb] w fun r w' => r = .returned (.bool (okC nb (F, C, T.data.toList))) ∧ Below w.heap.size w w' := by
  have HB : Hid (Below w.heap.size w (w.alloc (.cells #[.int .i64 F, .int .i64 C, .string T] 46))) := Lib.hid ((Below.refl _ _).alloc (Nat.le_refl _) _)
  obtain ⟨d, hd⟩ : ∃ d, okC nb (F, C, T.data.toList) = d := ⟨_, rfl⟩
  rw [hd]
  unfold okC at hd
  simp only at hd
  by_cases hT : T.data.toList = []
  · have hqT : (T.toList == ([] : List UInt8)) = true := by rw [nil_eq, hT]; rfl
    by_cases hF : 0 ≤ F
    · by_cases hC : 0 < C
      · by_cases hCn : C ≤ nb
        · have hw : -9223372036854775808 ≤ (nb : Int) - C := by omega
          by_cases hS : F ≤ (nb : Int) - C
          · have hd2 : d = true := by rw [← hd]; simp [hT, hF, hC]; omega
            subst hd2
            clear hd
            go_enter Tryd.func43, Tryd.ntmps43
            repeat (first | go_skip | go_guarded | go_step | go_upon)
            go_ret
            exact ⟨rfl, HB.out⟩
          · have hd2 : d = false := by rw [← hd]; simp [hT, hF, hC]; omega
            subst hd2
            clear hd
            go_enter Tryd.func43, Tryd.ntmps43
            repeat (first | go_skip | go_guarded | go_step | go_upon)
            go_ret
            exact ⟨rfl, HB.out⟩
        · have hd2 : d = false := by rw [← hd]; simp [hT, hF, hC]; omega
          subst hd2
          clear hd
          go_enter Tryd.func43, Tryd.ntmps43
          repeat (first | go_skip | go_guarded | go_step | go_upon)
          go_ret
          exact ⟨rfl, HB.out⟩
      · have hd2 : d = false := by rw [← hd]; simp [hC]
        subst hd2
        clear hd
        go_enter Tryd.func43, Tryd.ntmps43
        repeat (first | go_skip | go_guarded | go_step | go_upon)
        go_ret
        exact ⟨rfl, HB.out⟩
    · have hd2 : d = false := by rw [← hd]; simp [hF]
      subst hd2
      clear hd
      go_enter Tryd.func43, Tryd.ntmps43
      repeat (first | go_skip | go_guarded | go_step | go_upon)
      go_ret
      exact ⟨rfl, HB.out⟩
  · have hqT : (T.toList == ([] : List UInt8)) = false := by rw [nil_eq, decide_eq_false hT]
    have hd2 : d = false := by rw [← hd]; simp [hT]
    subst hd2
    clear hd
    go_enter Tryd.func43, Tryd.ntmps43
    repeat (first | go_skip | go_guarded | go_step | go_upon)
    go_ret
    exact ⟨rfl, HB.out⟩
theorem text_ext (s : ByteArray) (f c sz : Nat) : (s.extract (f * sz) (min ((f + c) * sz) s.size)).data.toList = (s.data.toList.drop (f * sz)).take (c * sz) := by
  have e : (f + c) * sz = f * sz + c * sz := Nat.add_mul f c sz
  rw [e]
  exact drop_ext
set_option maxRecDepth 100000 in
set_option maxHeartbeats 3200000 in
theorem textOf_any (s : ByteArray) (sz : Nat) (F C : Int) (T : ByteArray) (w : World) (h1 : 1 ≤ sz) (h2 : sz ≤ 65536) (hs : s.size ≤ 1048576) :
    Calls Tryd.prog 26 #[.string s, .int .i64 sz, .agg #[.int .i64 F, .int .i64 C, .string T]] w fun r w' => r = .returned (.tuple #[.string ⟨((textL s.data.toList sz (F, C, T.data.toList)).getD []).toArray⟩, .bool (textL s.data.toList sz (F, C, T.data.toList)).isSome]) ∧ Below w.heap.size w w' := by
  have CT : Hid (∀ W, Calls Tryd.prog 42 #[.agg #[.int .i64 F, .int .i64 C, .string T]] W fun r w' => r = .returned (.bool (okT (F, C, T.data.toList))) ∧ Below W.heap.size W w') := Lib.hid (fun W => isText_any F C T W)
  have hnb : cnt s.size sz ≤ 1048576 := Nat.le_trans (cnt_le h1) hs
  have CN : Hid (∀ W, Calls Tryd.prog 16 #[.string s, .int .i64 sz] W fun r w' => r = .returned (.int .i64 (cnt s.size sz : Nat)) ∧ W = w') := Lib.hid (fun W => count_any s sz W h1 h2 hs)
  have CC : Hid (∀ W, Calls Tryd.prog 43 #[.agg #[.int .i64 F, .int .i64 C, .string T], .int .i64 (cnt s.size sz : Nat)] W fun r w' => r = .returned (.bool (okC (cnt s.size sz) (F, C, T.data.toList))) ∧ Below W.heap.size W w') := Lib.hid (fun W => isCopy_any F C T _ W hnb)
  have CB : Hid (okC (cnt s.size sz) (F, C, T.data.toList) = true → ∀ W, Calls Tryd.prog 18 #[.string s, .int .i64 sz, .int .i64 F, .int .i64 C] W fun r w' => r = .returned (.string ⟨((s.data.toList.drop (F.toNat * sz)).take (C.toNat * sz)).toArray⟩) ∧ W = w') := Lib.hid (fun h W => by
    unfold okC at h
    simp only [Bool.and_eq_true, decide_eq_true_eq] at h
    obtain ⟨⟨⟨g1, g2⟩, g3⟩, g4⟩ := h
    obtain ⟨f, rfl⟩ : ∃ f : Nat, F = f := ⟨F.toNat, by omega⟩
    obtain ⟨c, rfl⟩ : ∃ c : Nat, C = c := ⟨C.toNat, by omega⟩
    have := blocksOf_any s sz f c W h1 h2 hs (by omega) (by omega)
    rw [← Lib.mk_data (s.extract _ _), text_ext] at this
    exact this)
  have HT : Hid (textL s.data.toList sz (F, C, T.data.toList) = if okT (F, C, T.data.toList) = true then some T.data.toList else if okC (cnt s.size sz) (F, C, T.data.toList) = true then some ((s.data.toList.drop (F.toNat * sz)).take (C.toNat * sz)) else none) := Lib.hid (by unfold textL; rw [← size_data])
  rw [HT.out]
  obtain ⟨d, hd⟩ : ∃ d, okT (F, C, T.data.toList) = d := ⟨_, rfl⟩
  obtain ⟨e, he⟩ : ∃ e, okC (cnt s.size sz) (F, C, T.data.toList) = e := ⟨_, rfl⟩
  obtain ⟨X, hX⟩ : ∃ X, (s.data.toList.drop (F.toNat * sz)).take (C.toNat * sz) = X := ⟨_, rfl⟩
  obtain ⟨n, hn⟩ : ∃ n, cnt s.size sz = n := ⟨_, rfl⟩
  rw [hn] at he CN CC CB ⊢
  rw [hd] at CT ⊢
  rw [he] at CC CB ⊢
  rw [hX] at CB ⊢
  have HB : Hid (Below w.heap.size w (w.alloc (.cells #[.int .i64 F, .int .i64 C, .string T] 46))) := Lib.hid ((Below.refl _ _).alloc (Nat.le_refl _) _)
  have HR : Hid ((w.alloc (.cells #[.int .i64 F, .int .i64 C, .string T] 46)).heap[w.heap.size]? = some (.cells #[.int .i64 F, .int .i64 C, .string T] 46 (0, 0))) := Lib.hid (heap_alloc_new w _)
  have HD := Lib.hid (Lib.mk_data T)
  clear hd he hX hn HT hnb
  go_enter Tryd.func26, Tryd.ntmps26
  repeat (first | go_skip | go_guarded | go_step | go_upon)
  refine (CT.out _).mono ?_
  rintro r w1 ⟨rfl, hb1⟩
  simp only []
  have HB1 := Lib.hid (HB.out.trans (hb1.mono HB.out.size))
  have HR1 := Lib.hid (row_keep HR.out hb1)
  clear hb1 CT HB HR
  obtain ⟨r0, r1, r2, -⟩ := row3 HR1.out
  cases d with
  | true =>
    repeat (first | go_skip | go_guarded | go_step | go_upon)
    go_ret2
    refine ⟨?_, HB1.out⟩
    simp only [if_true, Option.getD_some, Option.isSome_some]
    rw [HD.out]
    rfl
  | false =>
    repeat (first | go_skip | go_guarded | go_step | go_upon)
    refine wp_region_noPanic ?_
    with_reducible refine QT.region_mix (S := fun W' => Below w.heap.size w W' ∧ W'.heap[w.heap.size]? = some (.cells #[.int .i64 F, .int .i64 C, .string T] 46 (0, 0))) [(true, 0), (true, 1), (true, 2), (false, 3)] 4 (by kernel_rfl) (by kernel_rfl) ?_ ?_ ?_
    · exact fun _ _ _ _ _ h => h
    · exact ⟨HB1.out.drew, HR1.out⟩
    intro _
    simp only [QT.pickM, List.filterMap_cons, List.filterMap_nil, List.getElem?_cons_succ, List.getElem?_cons_zero, Option.map_some, List.drop_succ_cons, List.drop_zero]
    clear r0 r1 r2
    iterate 3 (refine QT.wpMix_take _ (by rfl) (by intro w' hSw; obtain ⟨r0, r1, r2, -⟩ := row3 hSw.2; go_simp; first | done | rfl) ?_; try simp only [Act.put, List.setIfInBounds_toArray, List.set_cons_zero, List.set_cons_succ])
    intro K' hK
    rw [if_pos (by rfl)]
    go_simp
    refine (CN.out _).mono ?_
    rintro r w2 ⟨rfl, rfl⟩
    simp only []
    have HB2 : Hid (Below w.heap.size w w1.drew) := Lib.hid HB1.out.drew
    have HR2 : Hid (w1.drew.heap[w.heap.size]? = some (.cells #[.int .i64 F, .int .i64 C, .string T] 46 (0, 0))) := Lib.hid HR1.out
    refine hK.out _ _ ⟨HB2.out, HR2.out⟩ ?_
    clear hK K'
    try simp only [Act.put, List.setIfInBounds_toArray, List.set_cons_zero, List.set_cons_succ]
    refine QT.wpMix_nil ?_
    generalize w1.drew = w2 at HB2 HR2 ⊢
    repeat (first | go_skip | go_guarded | go_step | go_upon)
    refine (CC.out _).mono ?_
    rintro r w3 ⟨rfl, hb3⟩
    simp only []
    have HB3 := Lib.hid (HB2.out.trans (hb3.mono HB2.out.size))
    have HR3 := Lib.hid (row_keep HR2.out hb3)
    clear hb3 CC HB1 HR1 HB2 HR2
    obtain ⟨r0, r1, r2, -⟩ := row3 HR3.out
    repeat (first | go_skip | go_guarded | go_step | go_upon)
    refine NoPanic.normal ?_
    cases e with
    | true =>
      have CBx := Lib.hid (CB.out rfl)
      repeat (first | go_skip | go_guarded | go_step | go_upon)
      refine (CBx.out _).mono ?_
      rintro r w4 ⟨rfl, rfl⟩
      simp only []
      repeat (first | go_skip | go_guarded | go_step | go_upon)
      go_ret2
      exact ⟨rfl, HB3.out⟩
    | false =>
      repeat (first | go_skip | go_guarded | go_step | go_upon)
      go_ret2
      exact ⟨rfl, HB3.out⟩
end DM
end Go.Proofs.YtmpmmebmhffaeaaDoor
