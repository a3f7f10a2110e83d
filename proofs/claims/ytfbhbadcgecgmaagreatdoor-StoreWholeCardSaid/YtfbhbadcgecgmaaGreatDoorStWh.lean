/- Layer 10: the walk of StoreWhole. -/
import Derived.Test.YtfbhbadcgecgmaaGreatDoorMg7
namespace Go.Proofs.YtfbhbadcgecgmaaGreatDoor
open Go.RowKit Go.Lib Go.BigFrame
namespace DG
open OM TP TM DP DM TG TR FP
open _root_.Go.Proofs.YtfbhbadcgecgmaaGreatDoor.ST (besideL saveD clearD loadD pA pB apD1 otherN whD1)

theorem wide_one {w : World} {n : Nd} {g : Nat} {X Y : ByteArray} (hr : w.heap[g]? = some (.cells #[.string X, .int .i64 n.kind, .string Y, .int .i64 n.mode] 45 (0, 0))) (hX : txt n.path = .string X) (hY : txt n.data = .string Y) (hl : n.path.length ≤ maxLen) : TW.Wide w (some ⟨g, 0, none⟩) 1 [n] := by
  obtain ⟨c0, c1, c2, c3, _⟩ := row4 hr
  refine ⟨fun _ => ⟨g, 0, rfl, (Array.getElem?_eq_some_iff.1 hr).1, fun k x hk => ?_⟩, (fun e => by cases e), Nat.le_refl _, fun x hx => ?_, by unfold maxLen; simp⟩
  · match k with
    | 0 =>
      simp at hk
      subst hk
      exact ⟨c0.trans (by rw [hX]), c1, c2.trans (by rw [hY]), c3⟩
    | k + 1 => simp at hk
  · rw [List.mem_singleton.1 hx]
    exact hl
set_option maxRecDepth 100000 in
set_option maxHeartbeats 12800000 in
theorem stWhole_any (O V : ByteArray) (fa fw fk ft : Int) (w : World) (he : NF.Env w) :
    Calls Tryz.prog 5 #[.string O, .string V, .agg #[.int .i64 fa, .int .i64 fw, .int .i64 fk, .int .i64 ft]] w fun r w' => r = .returned (.bool true) ∧ Below w.heap.size w w' := by
  have HE := Lib.hid he
  have b0 : Below w.heap.size w (w.alloc (.cells #[.int .i64 fa, .int .i64 fw, .int .i64 fk, .int .i64 ft] 78)) := (Below.refl _ _).alloc (Nat.le_refl _) _
  have hr0 := heap_alloc_new w (.cells #[.int .i64 fa, .int .i64 fw, .int .i64 fk, .int .i64 ft] 78)
  obtain ⟨w0, hw0⟩ : ∃ W, w.alloc (.cells #[.int .i64 fa, .int .i64 fw, .int .i64 fk, .int .i64 ft] 78) = W := ⟨_, rfl⟩
  rw [hw0] at b0 hr0
  have CA := Lib.hid (awakeS_any w0 (he.below b0))
  have B0 := Lib.hid b0
  have HR0 := Lib.hid hr0
  have HZ0 : Hid (w.heap.size < w0.heap.size) := Lib.hid (Array.getElem?_eq_some_iff.1 hr0).1
  clear he b0 hr0
  go_enter Tryz.func5, Tryz.ntmps5
  repeat (first | (go_at_call 25; fail) | go_skip | go_guarded | go_step | go_upon)
  try rw [hw0]
  clear hw0
  refine CA.out.mono ?_
  rintro r w1 ⟨rfl, hb1⟩
  simp only []
  have B1 : Hid (Below w.heap.size w w1) := Lib.hid (Below.trans B0.out (hb1.mono B0.out.size))
  have HR1 : Hid (w1.heap[w.heap.size]? = some (.cells #[.int .i64 fa, .int .i64 fw, .int .i64 fk, .int .i64 ft] 78 (0, 0))) := Lib.hid ((hb1.block _ HZ0.out).trans HR0.out)
  have HZ1 : Hid (w.heap.size < w1.heap.size) := Lib.hid (Nat.lt_of_lt_of_le HZ0.out hb1.size)
  clear hb1
  by_cases hO : O.size ≤ 65536
  · have hOz : ¬ (65536 : Int) < (O.size : Int) := by omega
    by_cases hV : V.size ≤ 65536
    · have hVz : ¬ (65536 : Int) < (V.size : Int) := by omega
      have hOl : O.data.toList.length ≤ 65536 := by rw [← Lib.size_eq]; exact hO
      have hVl : V.data.toList.length ≤ 65536 := by rw [← Lib.size_eq]; exact hV
      obtain ⟨wb, hwb⟩ : ∃ W, w1.alloc (.cells #[.string ⟨#[98]⟩, .int .i64 1, .string ⟨#[111, 116, 104, 101, 114]⟩, .int .i64 0] 45) = W := ⟨_, rfl⟩
      have BB : Hid (Below w.heap.size w wb) := Lib.hid (by rw [← hwb]; exact B1.out.alloc B1.out.size _)
      have HRb : Hid (wb.heap[w.heap.size]? = some (.cells #[.int .i64 fa, .int .i64 fw, .int .i64 fk, .int .i64 ft] 78 (0, 0))) := Lib.hid (by rw [← hwb]; exact old_row HR1.out)
      have CN : Hid (Calls Tryz.prog 9 #[.slice (some ⟨w1.heap.size, 0, none⟩) 1 1] wb fun r w' => ∃ S P, r = .returned (.tuple #[.pointer (some ⟨P, 0, none⟩), .int .i64 0]) ∧ DS wb w' S P 0 (newD [otherN])) := Lib.hid (by
        rw [← hwb]
        exact new_ds (t := [otherN]) (HE.out.below (B1.out.alloc B1.out.size _)) (wide_one (heap_alloc_new w1 _) rfl rfl (by show (1 : Nat) ≤ maxLen; unfold maxLen; omega)) (by decide +kernel))
      have HEb := Lib.hid (HE.out.below BB.out)
      have HWb := Lib.hid hwb
      obtain ⟨D3, e, D5, s, D6, n, st, D7, a1, a2, a3, a4, a5, a6, a7, a8⟩ := _root_.Go.Proofs.YtfbhbadcgecgmaaGreatDoor.ST.st_whole O.data.toList V.data.toList ⟨fa, fw, fk, ft⟩ hVl
      have A0 := Lib.hid (_root_.Go.Proofs.YtfbhbadcgecgmaaGreatDoor.ST.st_whole1 O.data.toList hOl)
      have A1 := Lib.hid a1
      have A2 := Lib.hid a2
      have A3 := Lib.hid a3
      have A4 := Lib.hid a4
      have A7 := Lib.hid a7
      have A8 := Lib.hid a8
      have A56 := Lib.hid (And.intro a5 a6)
      clear hwb hO hV hOl hVl a1 a2 a3 a4 a5 a6 a7 a8
      repeat (first | (go_at_call 9; fail) | go_skip | go_guarded | go_step | go_upon)
      rw [HWb.out]
      refine CN.out.mono ?_
      rintro r w2 ⟨S, P, rfl, h2⟩
      simp only []
      have CS : Hid (Calls Tryz.prog 26 #[.pointer (some ⟨P, 0, none⟩), .string ⟨#[97]⟩, .string O] w2 fun r W' => r = .returned (.int .i64 0) ∧ Aft wb w2 S P 4 (whD1 O.data.toList) W') := Lib.hid (by
        have := save_any wb w2 S P 0 (newD [otherN]) pA O.data.toList h2 HEb.out (by omega) (by unfold maxLen; decide)
        rw [A0.out, TM.txt_data O] at this
        exact this)
      clear h2
      repeat (first | (go_at_call 26; fail) | go_skip | go_guarded | go_step | go_upon)
      refine CS.out.mono ?_
      rintro r w3 ⟨rfl, S3, h3, _, _⟩
      simp only []
      have hbox := (h3.bel.block _ (Array.getElem?_eq_some_iff.1 HRb.out).1).trans HRb.out
      obtain ⟨c0, c1, c2, c3, cf⟩ := row4 hbox
      have CF := Lib.hid (h3.boot1 ⟨fa, fw, fk, ft⟩ rfl)
      clear h3 hbox
      repeat (first | (go_at_call 16; fail) | go_skip | go_guarded | go_step | go_upon)
      refine CF.out.mono ?_
      rintro r w4 ⟨rfl, S4, h4, _, _⟩
      simp only []
      have CS2 : Hid (Calls Tryz.prog 26 #[.pointer (some ⟨P, 0, none⟩), .string ⟨#[97]⟩, .string V] w4 fun r W' => r = .returned (.int .i64 e) ∧ Aft wb w4 S4 P 8 D3 W') := Lib.hid (by
        have := save_any wb w4 S4 P 4 _ pA V.data.toList h4 HEb.out (by omega) (by unfold maxLen; decide)
        rw [A1.out, TM.txt_data V] at this
        exact this)
      clear h4 c0 c1 c2 c3 cf
      repeat (first | (go_at_call 26; fail) | go_skip | go_guarded | go_step | go_upon)
      refine CS2.out.mono ?_
      rintro r w5 ⟨rfl, S5, h5, _, _⟩
      simp only []
      have CB := Lib.hid h5.boot0
      clear h5
      repeat (first | (go_at_call 16; fail) | go_skip | go_guarded | go_step | go_upon)
      refine CB.out.mono ?_
      rintro r w6 ⟨rfl, S6, h6, _, _⟩
      simp only []
      obtain ⟨sS, hsS, hsd⟩ := txt_of s
      have CL : Hid (Calls Tryz.prog 28 #[.pointer (some ⟨P, 0, none⟩), .string ⟨#[97]⟩] w6 fun r W' => r = .returned (.tuple #[.string sS, .bool true, .int .i64 0]) ∧ Aft wb w6 S6 P 9 D5 W') := Lib.hid (by
        have := load_any wb w6 S6 P 8 _ pA h6 HEb.out (by omega) (by unfold maxLen; decide)
        rw [A2.out] at this
        simp only at this
        rw [hsS] at this
        exact this)
      clear h6
      repeat (first | (go_at_call 28; fail) | go_skip | go_guarded | go_step | go_upon)
      refine CL.out.mono ?_
      rintro r w7 ⟨rfl, S7, h7, _, _⟩
      simp only []
      have CG := Lib.hid (h7.get HEb.out (by omega) pB (by unfold maxLen; decide))
      rw [A3.out] at CG
      obtain ⟨np, nk, nd, nm⟩ := n
      obtain ⟨s1, s2, s3⟩ := st
      have HD4 : nd = [111, 116, 104, 101, 114] := A4.out
      subst HD4
      obtain ⟨X1, hX1, _⟩ := txt_of np
      unfold ndVal stampVal at CG
      simp only at CG
      rw [hX1, show txt [111, 116, 104, 101, 114] = .string ⟨#[111, 116, 104, 101, 114]⟩ from rfl, show txt pB = .string ⟨#[98]⟩ from rfl] at CG
      clear h7 hX1 hsS A4
      repeat (first | (go_at_call 32; fail) | go_skip | go_guarded | go_step | go_upon)
      refine CG.out.mono ?_
      rintro r w8 ⟨rfl, S8, h8, _, _⟩
      simp only []
      have H8 := Lib.hid h8
      clear h8
      have b8 : Below w8.heap.size w8 ((w8.alloc (.cells #[.string X1, .int .i64 nk, .string ⟨#[111, 116, 104, 101, 114]⟩, .int .i64 nm] 45)).alloc (.cells #[.int .i64 s1, .int .i64 s2, .int .i64 s3] 47)) := ((Below.refl _ _).alloc (Nat.le_refl _) _).alloc (by simp) _
      have CT : Hid (∀ W, Below w8.heap.size w8 W → Calls Tryz.prog 26 #[.pointer (some ⟨P, 0, none⟩), .string ⟨#[97]⟩, .string ⟨#[116, 104, 105, 114, 100]⟩] W fun r W' => r = .returned (.int .i64 0) ∧ Aft wb W S8 P 14 D7 W') := Lib.hid (fun W hW => by
        have := save_any wb W S8 P 10 _ pA [116, 104, 105, 114, 100] (H8.out.below hW) HEb.out (by omega) (by unfold maxLen; decide)
        rw [A7.out] at this
        exact this)
      have hsz : (treeD D7).length = 2 := by unfold treeD; rw [List.length_map]; exact A8.out
      have HT : Hid (∃ T, treeD D7 = T ∧ T.length = 2) := Lib.hid ⟨_, rfl, hsz⟩
      have B8 := Lib.hid b8
      have hcs : ((sS.toList == V.toList) = true) ∨ ((sS.toList == V.toList) = false ∧ (sS.toList == O.toList) = true ∧ ¬ e = 0) := by
        rw [Lib.toList_data, Lib.toList_data, Lib.toList_data, hsd]
        obtain ⟨q1, q2⟩ := A56.out
        by_cases hv : s = V.data.toList
        · exact .inl (by rw [hv]; simp)
        · refine .inr ⟨by simpa using hv, ?_, fun h => hv (q2 h)⟩
          rcases q1 with q | q
          · rw [q]; simp
          · exact absurd q hv
      obtain ⟨bo, hbo⟩ : ∃ b, (sS.toList == O.toList) = b := ⟨_, rfl⟩
      obtain ⟨be, hbe⟩ : ∃ b, (e == 0) = b := ⟨_, rfl⟩
      have hgo : (be = true ∧ (sS.toList == V.toList) = true ∧ bo = true) ∨ (be = true ∧ (sS.toList == V.toList) = true ∧ bo = false) ∨ (be = false ∧ (sS.toList == V.toList) = true ∧ bo = false) ∨ (be = false ∧ bo = true) := by
        rcases hcs with h | ⟨h1, h2, h3⟩
        · cases be <;> cases bo <;> simp [h]
        · have : be = false := by rw [← hbe]; simpa using h3
          rw [hbo] at h2
          exact .inr (.inr (.inr ⟨this, h2⟩))
      clear hcs A56 hsd b8 hsz
      rcases hgo with ⟨rfl, hv, rfl⟩ | ⟨rfl, hv, rfl⟩ | ⟨rfl, hv, rfl⟩ | ⟨rfl, rfl⟩
      all_goals
        repeat (first | (go_at_call 26; fail) | go_skip | go_guarded | go_step | go_upon)
        refine (CT.out _ B8.out).mono ?_
        rintro r w9 ⟨rfl, S9, h9, _, _⟩
        simp only []
        have CTr := Lib.hid h9.tree
        have HB9 := Lib.hid h9.bel
        obtain ⟨T, hT, hT2⟩ := HT.out
        rw [hT] at CTr
        clear h9 hT
        repeat (first | (go_at_call 14; fail) | go_skip | go_guarded | go_step | go_upon)
        refine CTr.out.mono ?_
        rintro r w10 ⟨v10, rfl, ho10, hb10⟩
        simp only []
        obtain ⟨a10, c10, hv10, -⟩ := lay_own ho10
        have HB10 := Lib.hid hb10
        subst hv10
        rw [hT2]
        clear ho10 hb10 hT2
        repeat (first | go_skip | go_guarded | go_step | go_upon)
        go_ret
        exact ⟨rfl, Below.trans BB.out (Below.trans (HB9.out) (HB10.out.mono HB9.out.size) |>.mono BB.out.size)⟩
    · have hVz : (65536 : Int) < (V.size : Int) := by omega
      clear hO hV
      repeat (first | go_skip | go_guarded | go_step | go_upon)
      go_ret
      exact ⟨rfl, B1.out⟩
  · have hOz : (65536 : Int) < (O.size : Int) := by omega
    clear hO
    repeat (first | go_skip | go_guarded | go_step | go_upon)
    go_ret
    exact ⟨rfl, B1.out⟩
end DG
end Go.Proofs.YtfbhbadcgecgmaaGreatDoor
