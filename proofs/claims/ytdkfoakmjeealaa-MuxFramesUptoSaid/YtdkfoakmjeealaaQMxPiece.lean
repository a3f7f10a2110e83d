/- Layer 16: a sender's next piece. -/
import Derived.Test.YtdkfoakmjeealaaQMxPass
import Derived.Test.YtdkfoakmjeealaaQMxPut
import Derived.Test.YtdkfoakmjeealaaQQs
import Derived.Test.YtdkfoakmjeealaaShelf
set_option linter.all false
set_option maxRecDepth 100000
set_option maxHeartbeats 25600000
namespace Go.Proofs.Ytdkfoakmjeealaa
open Go.RowKit Go.Lib Go.BigFrame
namespace MX
open OM FP

theorem bytes_is (s : ByteArray) : s = ⟨s.data.toList.toArray⟩ := by
  apply ByteArray.ext
  simp
theorem ext_bytes (l : List UInt8) (a b : Nat) : (⟨l.toArray⟩ : ByteArray).extract a b = ⟨((l.drop a).take (b - a)).toArray⟩ := by
  apply ByteArray.ext
  apply Array.ext'
  exact Lib.extract_data _ a b
/-- A callee's contract, met in a world of a region that draws its order. -/
theorem reg_of {f : FuncId} {args : Array Value} {v : Value} {w : World} (h : ∀ W, Below w.heap.size w W → Calls Try.prog f args W fun e w' => e = .returned v ∧ Below W.heap.size W w') (d : Nat) (os : Array Obj) :
    Calls Try.prog f args (Go.Sort.grow (redrawn w d) os) fun e w'' => e = .returned v ∧ ∃ p : Regrown, w'' = Go.Sort.grow (redrawn w p.d) p.os := Calls.regrown_of (h _ (below_regrown w d os))
theorem sl_from (S : ByteArray) (a : Nat) (za : Int) (ha : za = a) (h2 : a ≤ S.size) (W : World) :
    (Instr.slice 9 (.string S) (some (.int .i64 za)) none none).run Try.prog W = .ok (.string ⟨(S.data.toList.drop a).toArray⟩) W := by
  subst ha
  rw [run_slice_string_from_if W 9 S .i64 a Try.underlying9, if_pos (by omega), bytes_is S, ext_bytes, List.take_of_length_le (by rw [List.length_drop, Lib.size_eq]; simp)]
  rfl
theorem sl_to (S : ByteArray) (a : Nat) (za : Int) (ha : za = a) (h2 : a ≤ S.size) (W : World) :
    (Instr.slice 9 (.string S) none (some (.int .i64 za)) none).run Try.prog W = .ok (.string ⟨(S.data.toList.take a).toArray⟩) W := by
  subst ha
  rw [run_slice_string_to_if W 9 S .i64 a Try.underlying9, if_pos (by omega), bytes_is S, ext_bytes]
  rfl
set_option maxRecDepth 100000 in
theorem clone_any (s : ByteArray) (w : World) (h : s.size ≤ 4294967296) :
    Calls Try.prog 47 #[.string s] w fun r w' => r = .returned (.string s) ∧ Below w.heap.size w w' := by
  have C := Try.stringslite_Clone s w (by omega)
  go_enter Try.func47, Try.ntmps47
  go_wp2_with fail
  refine C.mono ?_
  rintro r w1 ⟨rfl, hb⟩
  go_wp2_with fail
  go_ret
  exact ⟨rfl, hb⟩
set_option maxRecDepth 100000 in
set_option maxHeartbeats 6400000 in
theorem piece_any (g o : Nat) (c : Cl) (W S : Int) (cur : Array Value) (w : World) (hr : w.heap[g]? = some (.cells cur 79 (0, 0))) (q0 : cur[o]? = some (.int .i64 (c.sent : Nat))) (q1 : cur[o + 1]? = some (.bool c.ended)) (q2 : cur[o + 2]? = some (txt (c.text.drop c.sent))) (q3 : cur[o + 3]? = some (.int .i64 (c.acked : Nat)))
    (hok : c.Ok) (hS : 1 ≤ S) (hS2 : S ≤ 9223372036854775807) (hW : (c.way : Int) < W) (hW2 : W ≤ 9223372036854775807) :
    Calls Try.prog 30 #[.pointer (some ⟨g, o, none⟩), .int .i64 W, .int .i64 S] w fun r w' => r = .returned (frV ⟨0, c.sent, (c.text.drop c.sent).take (pieceN W S c), decide (c.sent + pieceN W S c = c.text.length)⟩) ∧
      w'.heap[g]? = some (.cells (((cur.setIfInBounds (o + 2) (txt (c.text.drop (c.sent + pieceN W S c)))).setIfInBounds o (.int .i64 (c.sent + pieceN W S c : Nat))).setIfInBounds (o + 1) (.bool (decide (c.sent + pieceN W S c = c.text.length)))) 79 (0, 0)) ∧ Out (fun k => k = g) w w' := by
  obtain ⟨hps, -, -⟩ := piece_le (W := W) hS hW
  have hpz := piece_z (W := W) hS hW
  unfold pieceZ at hpz
  unfold Cl.way at hW hpz
  have hso := hok.s
  have hao := hok.a
  have hto := hok.t
  have hgl := (Array.getElem?_eq_some_iff.1 hr).1
  have c0 := (row_cell (j := o) hr).trans q0
  have c1 := (row_cell (j := o + 1) hr).trans q1
  have c2 := (row_cell (j := o + 2) hr).trans q2
  have c3 := (row_cell (j := o + 3) hr).trans q3
  obtain ⟨s, hs⟩ : ∃ s, c.sent = s := ⟨_, rfl⟩
  obtain ⟨a, ha⟩ : ∃ a, c.acked = a := ⟨_, rfl⟩
  obtain ⟨n, hn⟩ : ∃ n, pieceN W S c = n := ⟨_, rfl⟩
  obtain ⟨L, hL⟩ : ∃ L, c.text.drop c.sent = L := ⟨_, rfl⟩
  obtain ⟨m, hm⟩ : ∃ m, c.text.length - c.sent = m := ⟨_, rfl⟩
  have hLl : L.length = m := by rw [← hL, List.length_drop, hm]
  have hLd : c.text.drop (c.sent + n) = L.drop n := by rw [← hL, List.drop_drop]
  have hlast : decide (c.sent + n = c.text.length) = decide (n = m) := by
    rw [decide_eq_decide]
    omega
  rw [hn] at hpz hps ⊢
  rw [hLd, hlast, hL, hs]
  rw [hm] at hpz hps
  rw [hs, ha] at hpz
  rw [hL] at c2
  rw [hs] at c0 hW hso hao
  rw [ha] at c3 hW hao
  obtain ⟨e, he⟩ : ∃ e, c.ended = e := ⟨_, rfl⟩
  rw [he] at c1
  have hsm : s + m ≤ 65536 := by omega
  obtain ⟨T, hT⟩ : ∃ T : ByteArray, ⟨L.toArray⟩ = T := ⟨_, rfl⟩
  have hTd : T.data.toList = L := by rw [← hT]
  have hTz : T.size = m := by rw [Lib.size_eq, hTd, hLl]
  obtain ⟨T1, hT1⟩ : ∃ T : ByteArray, ⟨(L.take n).toArray⟩ = T := ⟨_, rfl⟩
  obtain ⟨T2, hT2⟩ : ∃ T : ByteArray, ⟨(L.drop n).toArray⟩ = T := ⟨_, rfl⟩
  have hT1z : T1.size = n := by rw [← hT1, Lib.size_eq, List.length_take]; omega
  have s1 := fun za ha => sl_to T n za ha (by omega)
  have s2 := fun za ha => sl_from T n za ha (by omega)
  rw [hTd, hT1] at s1
  rw [hTd, hT2] at s2
  have s1 := s1 n rfl
  have s2 := s2 n rfl
  unfold txt at c2
  rw [hT] at c2
  unfold frV txt
  simp only [hT1, hT2]
  have CC := Lib.hid (fun W => clone_any T1 W (by omega))
  have f0 := row_frz hr o
  have f1 := row_frz hr (o + 1)
  have f2 := row_frz hr (o + 2)
  have HR := Lib.hid hr
  have Q0 : Hid (cur[o]? = some (.int .i64 (s : Nat))) := Lib.hid ((row_cell hr).symm.trans c0)
  have Q1 : Hid (cur[o + 1]? = some (.bool e)) := Lib.hid ((row_cell hr).symm.trans c1)
  have Q2 : Hid (cur[o + 2]? = some (.string T)) := Lib.hid ((row_cell hr).symm.trans c2)
  obtain ⟨wA, hwA⟩ : ∃ wA, w.alloc (.cells #[.int .i64 0, .int .i64 0, .string ⟨#[]⟩, .bool false] 29) = wA := ⟨_, rfl⟩
  have hbA : Below w.heap.size w wA := hwA ▸ (Below.refl _ _).alloc (Nat.le_refl _) _
  have hrA : wA.heap[w.heap.size]? = some (.cells #[.int .i64 0, .int .i64 0, .string ⟨#[]⟩, .bool false] 29 (0, 0)) := hwA ▸ heap_alloc_new w _
  obtain ⟨R, hR⟩ : ∃ R, w.heap.size = R := ⟨_, rfl⟩
  have HBA := Lib.hid hbA
  rw [hR] at hrA
  have HRA := Lib.hid hrA
  have HRR := Lib.hid hR
  have DW := Lib.hid (reg_of (w := wA) (fun W1 hW1 => way_any g o s a W1 ((hW1.cell (p := ⟨g, o, none⟩) (Nat.lt_of_lt_of_le hgl hbA.size)).trans ((hbA.cell (p := ⟨g, o, none⟩) hgl).trans c0)) ((hW1.cell (p := ⟨g, o + 3, none⟩) (Nat.lt_of_lt_of_le hgl hbA.size)).trans ((hbA.cell (p := ⟨g, o + 3, none⟩) hgl).trans c3)) hao (by omega)))
  have a2 := (hbA.cell (p := ⟨g, o + 2, none⟩) hgl).trans c2
  obtain ⟨lb, hlb⟩ : ∃ lb, decide (n = m) = lb := ⟨_, rfl⟩
  have hlz : ((n : Int) == (m : Int)) = lb := by
    rw [← hlb]
    by_cases h : n = m
    · subst h; simp
    · rw [beq_eq_false_iff_ne.2 (show (n : Int) ≠ m by omega), decide_eq_false h]
  rw [hlb]
  have hwz : ((s - a : Nat) : Int) = (s : Int) - a := by omega
  have hnz : (n : Int) ≤ m := by omega
  have hmz : (s : Int) + m ≤ 65536 := by omega
  have haz : (0 : Int) ≤ (s : Int) - a := by omega
  have hsz : (s : Int) - a ≤ 65536 := by omega
  rw [hwz] at DW
  have hpz2 : min (min (m : Int) S) (W - ((s : Int) - a)) = n := by rw [← hwz]; exact hpz
  clear hr q0 q1 q2 q3 hok hs ha hn hL hm hLl hLd hlast hT hTd hT1 hT2 hrA hbA hpz hlb
  go_enter Try.func30, Try.ntmps30
  repeat (first | go_skip | go_guarded | go_step | go_upon)
  have q2 := cell_regrown a2
  have q3 := fun W1 : World => run_min3 (P := Try.prog) W1 #[3, 3, 3] 3 (m : Int) S (W - ((s : Int) - a))
  simp only [hpz2] at q3
  with_reducible refine wp_region_quiet_below (by kernel_rfl) (by kernel_rfl) ?_
  repeat (go_big_quiet_step (first | (go_at_call 32; exact DW.out _ _)))
  refine wpQuiet_nil ?_
  intro _ hw'
  obtain ⟨⟨dq, osq⟩, hw''⟩ := hw'
  subst hw''
  have W5 : Hid (Below wA.heap.size wA (Go.Sort.grow (redrawn wA dq) osq)) := Lib.hid (below_regrown wA dq osq)
  generalize Go.Sort.grow (redrawn wA dq) osq = w5 at W5 ⊢
  have B5 := Lib.hid (Below.trans HBA.out (W5.out.mono HBA.out.size))
  have R5 := Lib.hid ((B5.out.block g hgl).trans HR.out)
  have RA5 := Lib.hid ((W5.out.block R (Array.getElem?_eq_some_iff.1 HRA.out).1).trans HRA.out)
  clear q2 q3 a2 hpz2 c0 c1 c2 c3 f0 f1 f2
  repeat (first | go_skip | go_guarded | go_step | go_upon)
  refine wp_region_noPanic ?_
  with_reducible refine QT.region_forkI (S := fun W' => W'.heap[g]? = some (.cells cur 79 (0, 0))) [0, 1, 2, 3, 4, 5, 6, 7, 8, 9, 10, 12, 13, 14, 15, 16, 17, 18] 3 21 (by kernel_rfl) (by kernel_rfl) ?_ ?_ ?_
  · exact fun _ _ _ _ _ h => h
  · exact R5.out
  intro _
  simp only [QT.pick, List.filterMap_cons, List.filterMap_nil, List.getElem?_cons_succ, List.getElem?_cons_zero, List.drop_succ_cons, List.drop_zero]
  iterate 18 (refine QT.wpTake_cons _ (by rfl) (by intro w' hSw; have x0 := (row_cell hSw).trans Q0.out; have x2 := (row_cell hSw).trans Q2.out; go_simp; first | done | rfl) ?_; try simp only [Act.put, List.setIfInBounds_toArray, List.set_cons_zero, List.set_cons_succ])
  refine QT.wpTake_nil ?_
  have hS : ∀ W : World, Below w5.heap.size w5 W → W.heap[g]? = some (.cells cur 79 (0, 0)) := fun W hb => (hb.block g (Array.getElem?_eq_some_iff.1 R5.out).1).trans R5.out
  have hd : Below w5.heap.size w5 w5.drew := (Below.refl _ _).drew
  refine QT.forkI_two 11 20 _ _ (by rfl) (by rfl) (by kernel_rfl) ?_ ?_
  · intro K' hK
    rw [if_pos (by rfl)]
    go_simp
    refine (CC.out _).mono ?_
    rintro r w6 ⟨rfl, hb6⟩
    simp only []
    have b6 : Below w5.heap.size w5 w6 := hd.trans hb6
    refine hK.out _ _ (hS _ b6) ?_
    clear hK K' hb6
    try simp only [Act.put, List.setIfInBounds_toArray, List.set_cons_zero, List.set_cons_succ]
    refine QT.forkI_take 19 _ _ (by rfl) (by kernel_rfl) (fun _ _ _ _ _ h => h) (hS _ b6) (by rfl) (by intro w' hSw; go_simp; first | done | rfl) ?_
    try simp only [Act.put, List.setIfInBounds_toArray, List.set_cons_zero, List.set_cons_succ]
    refine QT.forkI_one 20 _ (by rfl) (by kernel_rfl) ?_
    intro K' hK
    rw [if_pos (by rfl)]
    go_simp
    refine hK.out _ _ (hS _ (b6.alloc b6.size _)) ?_
    clear hK K'
    try simp only [Act.put, List.setIfInBounds_toArray, List.set_cons_zero, List.set_cons_succ]
    refine QT.forkI_nil (by kernel_rfl) ?_
    obtain ⟨F, hF⟩ : ∃ F, w6.heap.size = F := ⟨_, rfl⟩
    have hF5 : w5.heap.size ≤ F := hF ▸ b6.size
    have hB8 := b6.alloc b6.size (.cells #[.int .i64 0, .int .i64 0, .string ⟨#[]⟩, .bool false] 29)
    have hF8 := heap_alloc_new w6 (.cells #[.int .i64 0, .int .i64 0, .string ⟨#[]⟩, .bool false] 29)
    rw [hF] at hF8 ⊢
    generalize w6.alloc (.cells #[.int .i64 0, .int .i64 0, .string ⟨#[]⟩, .bool false] 29) = w8 at hB8 hF8 ⊢
    clear hF b6
    have hgl8 : g < w8.heap.size := Nat.lt_of_lt_of_le (Array.getElem?_eq_some_iff.1 R5.out).1 hB8.size
    have hgF : g ≠ F := fun e => by have := (Array.getElem?_eq_some_iff.1 R5.out).1; omega
    have hRF : R ≠ F := fun e => by have := (Array.getElem?_eq_some_iff.1 RA5.out).1; omega
    have hgR : g ≠ R := fun e => by have := HRR.out; omega
    have hFg := Ne.symm hgF
    have hFR := Ne.symm hRF
    have hRg := Ne.symm hgR
    have RG := Lib.hid (hS w8 hB8)
    have RR := Lib.hid ((hB8.block R (Array.getElem?_eq_some_iff.1 RA5.out).1).trans RA5.out)
    have RF := Lib.hid hF8
    have B8 := Lib.hid (B5.out.trans (hB8.mono B5.out.size))
    have x0 := (row_cell (j := o) RG.out).trans Q0.out
    have x1 := (row_cell (j := o + 1) RG.out).trans Q1.out
    have x2 := (row_cell (j := o + 2) RG.out).trans Q2.out
    have z0 := row_frz RG.out o
    have z1 := row_frz RG.out (o + 1)
    have z2 := row_frz RG.out (o + 2)
    have y0 := (row_cell (j := 0) RF.out).trans rfl
    have y1 := (row_cell (j := 1) RF.out).trans rfl
    have y2 := (row_cell (j := 2) RF.out).trans rfl
    have y3 := (row_cell (j := 3) RF.out).trans rfl
    have v0 := row_frz RF.out 0
    have v1 := row_frz RF.out 1
    have v2 := row_frz RF.out 2
    have v3 := row_frz RF.out 3
    clear hS hd hB8 hF8
    try simp only [List.drop_succ_cons, List.drop_zero]
    repeat (first | go_skip | go_guarded | go_step | go_upon)
    refine NoPanic.normal ?_
    have RF9 := row_set (j := 3) (row_set (j := 2) (row_set (j := 1) (row_set (j := 0) RF.out (.int .i64 0)) (.int .i64 (s : Nat))) (.string T1)) (.bool lb)
    have hk : ∀ k, k ≠ F → ((((w8.setCell ⟨F, 0, none⟩ (.int .i64 0)).setCell ⟨F, 1, none⟩ (.int .i64 (s : Nat))).setCell ⟨F, 2, none⟩ (.string T1)).setCell ⟨F, 3, none⟩ (.bool lb)).heap[k]? = w8.heap[k]? := fun k h => by
      rw [heap_set_ne h, heap_set_ne h, heap_set_ne h, heap_set_ne h]
    have RG9 := (hk g hgF).trans RG.out
    have RR9 := (hk R hRF).trans RR.out
    have hF0 : w.heap.size ≤ F := by have := B5.out.size; omega
    have B9 : Below w.heap.size w ((((w8.setCell ⟨F, 0, none⟩ (.int .i64 0)).setCell ⟨F, 1, none⟩ (.int .i64 (s : Nat))).setCell ⟨F, 2, none⟩ (.string T1)).setCell ⟨F, 3, none⟩ (.bool lb)) := (((B8.out.setCell (p := ⟨F, 0, none⟩) hF0 _).setCell (p := ⟨F, 1, none⟩) hF0 _).setCell (p := ⟨F, 2, none⟩) hF0 _).setCell (p := ⟨F, 3, none⟩) hF0 _
    clear hk x0 x1 x2 z0 z1 z2 y0 y1 y2 y3 v0 v1 v2 v3 RF RG RR B8
    generalize (((w8.setCell ⟨F, 0, none⟩ (.int .i64 0)).setCell ⟨F, 1, none⟩ (.int .i64 (s : Nat))).setCell ⟨F, 2, none⟩ (.string T1)).setCell ⟨F, 3, none⟩ (.bool lb) = w9 at RF9 RG9 RR9 B9 ⊢
    have x2 := (row_cell (j := o + 2) RG9).trans Q2.out
    have z2 := row_frz RG9 (o + 2)
    have RF := Lib.hid RF9
    have RG := Lib.hid RG9
    have RR := Lib.hid RR9
    have B9 := Lib.hid B9
    clear RF9 RG9 RR9
    repeat (first | go_skip | go_guarded | go_step | go_upon)
    have RF9 := (heap_set_ne (w := w9) (j := o + 2) (v := .string T2) hFg).trans RF.out
    have RG9 := row_set (j := o + 2) RG.out (.string T2)
    have RR9 := (heap_set_ne (w := w9) (j := o + 2) (v := .string T2) hRg).trans RR.out
    have O9 : Out (fun k => k = g) w (w9.setCell ⟨g, o + 2, none⟩ (.string T2)) := (((Out.refl (fun k => k = g) w).then (Out.of_below B9.out) (fun j hj hT => by omega))).setCell (p := ⟨g, o + 2, none⟩) (fun _ => rfl) _
    clear x2 z2 RF RG RR B9
    generalize w9.setCell ⟨g, o + 2, none⟩ (.string T2) = w10 at RF9 RG9 RR9 O9 ⊢
    have RF := Lib.hid RF9
    have RG := Lib.hid RG9
    have RR := Lib.hid RR9
    have O10 := Lib.hid O9
    have y0 := (row_cell (j := 0) RF9).trans rfl
    have y1 := (row_cell (j := 1) RF9).trans rfl
    have y2 := (row_cell (j := 2) RF9).trans rfl
    have y3 := (row_cell (j := 3) RF9).trans rfl
    clear RF9 RG9 RR9 O9
    with_reducible refine QT.region_tail 4 (by kernel_rfl) (by kernel_rfl) ?_
    simp only [List.take_succ_cons, List.take_zero, List.drop_succ_cons, List.drop_zero]
    have p0 := cell_regrown y0
    have p1 := cell_regrown y1
    have p2 := cell_regrown y2
    have p3 := cell_regrown y3
    repeat (go_big_quiet_step (fail))
    refine wpQuiet_nil ?_
    intro _ hw'
    obtain ⟨⟨dq2, osq2⟩, hw''⟩ := hw'
    subst hw''
    have W11 : Hid (Below w10.heap.size w10 (Go.Sort.grow (redrawn w10 dq2) osq2)) := Lib.hid (below_regrown w10 dq2 osq2)
    generalize Go.Sort.grow (redrawn w10 dq2) osq2 = w11 at W11 ⊢
    clear p0 p1 p2 p3 y0 y1 y2 y3
    have hg10 := (Array.getElem?_eq_some_iff.1 RG.out).1
    have RG11 := Lib.hid ((W11.out.block g hg10).trans RG.out)
    have RF11 := Lib.hid ((W11.out.block F (Array.getElem?_eq_some_iff.1 RF.out).1).trans RF.out)
    have RR11 := Lib.hid ((W11.out.block R (Array.getElem?_eq_some_iff.1 RR.out).1).trans RR.out)
    have CP := Lib.hid (pass_any g o s e lb 0 (s : Int) T1 w11 ((row_cell (j := o) RG11.out).trans (by rw [Array.getElem?_setIfInBounds_ne (by omega)]; exact Q0.out)) ((row_cell (j := o + 1) RG11.out).trans (by rw [Array.getElem?_setIfInBounds_ne (by omega)]; exact Q1.out)) (row_frz RG11.out o) (row_frz RG11.out (o + 1)) (Array.getElem?_eq_some_iff.1 RG11.out).1 (by omega))
    repeat (first | (go_at_call 36; fail) | go_skip | go_guarded | go_step | go_upon)
    refine CP.out.mono ?_
    rintro r w12 ⟨rfl, w13, hb13, rfl⟩
    simp only []
    have RG13 := (hb13.block g (Array.getElem?_eq_some_iff.1 RG11.out).1).trans RG11.out
    have RF13 := (heap_set_ne (w := w13.setCell ⟨g, o, none⟩ (.int .i64 (s + T1.size : Nat))) (j := o + 1) (v := .bool lb) hFg).trans ((heap_set_ne (w := w13) (j := o) (v := .int .i64 (s + T1.size : Nat)) hFg).trans ((hb13.block F (Array.getElem?_eq_some_iff.1 RF11.out).1).trans RF11.out))
    have RR13 := (heap_set_ne (w := w13.setCell ⟨g, o, none⟩ (.int .i64 (s + T1.size : Nat))) (j := o + 1) (v := .bool lb) hRg).trans ((heap_set_ne (w := w13) (j := o) (v := .int .i64 (s + T1.size : Nat)) hRg).trans ((hb13.block R (Array.getElem?_eq_some_iff.1 RR11.out).1).trans RR11.out))
    have RG14 := row_set (j := o + 1) (row_set (j := o) RG13 (.int .i64 (s + T1.size : Nat))) (.bool lb)
    have O14 : Out (fun k => k = g) w ((w13.setCell ⟨g, o, none⟩ (.int .i64 (s + T1.size : Nat))).setCell ⟨g, o + 1, none⟩ (.bool lb)) := ((((O10.out.thenBelow W11.out).thenBelow hb13)).setCell (p := ⟨g, o, none⟩) (fun _ => rfl) _).setCell (p := ⟨g, o + 1, none⟩) (fun _ => rfl) _
    rw [hT1z] at RG14 RF13 RR13 O14 ⊢
    clear RG13 hb13 CP RG RF RR O10 W11 RG11 RF11 RR11 hg10
    generalize (w13.setCell ⟨g, o, none⟩ (.int .i64 (s + n : Nat))).setCell ⟨g, o + 1, none⟩ (.bool lb) = w14 at RG14 RF13 RR13 O14 ⊢
    have y0 := (row_cell (j := 0) RF13).trans rfl
    have y1 := (row_cell (j := 1) RF13).trans rfl
    have y2 := (row_cell (j := 2) RF13).trans rfl
    have y3 := (row_cell (j := 3) RF13).trans rfl
    have x0 := (row_cell (j := 0) RR13).trans rfl
    have x1 := (row_cell (j := 1) RR13).trans rfl
    have x2 := (row_cell (j := 2) RR13).trans rfl
    have x3 := (row_cell (j := 3) RR13).trans rfl
    have v0 := row_frz RR13 0
    have v1 := row_frz RR13 1
    have v2 := row_frz RR13 2
    have v3 := row_frz RR13 3
    have RG := Lib.hid RG14
    have RR := Lib.hid RR13
    have O14 := Lib.hid O14
    clear RG14 RF13 RR13
    repeat (first | go_skip | go_guarded | go_step | go_upon)
    have RR15 : ((((w14.setCell ⟨R, 0, none⟩ (.int .i64 0)).setCell ⟨R, 1, none⟩ (.int .i64 (s : Nat))).setCell ⟨R, 2, none⟩ (.string T1)).setCell ⟨R, 3, none⟩ (.bool lb)).heap[R]? = some (.cells #[.int .i64 0, .int .i64 (s : Nat), .string T1, .bool lb] 29 (0, 0)) := row_set (j := 3) (row_set (j := 2) (row_set (j := 1) (row_set (j := 0) RR.out (.int .i64 0)) (.int .i64 (s : Nat))) (.string T1)) (.bool lb)
    refine bodyPost_ret (v := .agg #[.int .i64 0, .int .i64 (s : Nat), .string T1, .bool lb]) (results_cell_row rfl _ _ R 29 _ (0, 0) _ rfl RR15 Try.underlying29 rfl (by kernel_rfl)) rfl ⟨rfl, ?_, ?_⟩
    · rw [heap_set_ne hgR, heap_set_ne hgR, heap_set_ne hgR, heap_set_ne hgR]
      exact RG.out
    · have hRw : w.heap.size ≤ R := Nat.le_of_eq HRR.out
      have hin : ∀ k : Nat, k = R → k < w.heap.size → k = g := fun k e h => by omega
      exact (((O14.out.setCell (p := ⟨R, 0, none⟩) (hin R rfl) _).setCell (p := ⟨R, 1, none⟩) (hin R rfl) _).setCell (p := ⟨R, 2, none⟩) (hin R rfl) _).setCell (p := ⟨R, 3, none⟩) (hin R rfl) _
  · intro K' hK
    rw [if_pos (by rfl)]
    go_simp
    have b6 : Below w5.heap.size w5 (w5.drew.alloc (.cells #[.int .i64 0, .int .i64 0, .string ⟨#[]⟩, .bool false] 29)) := hd.alloc (Nat.le_refl _) _
    have r6 := heap_alloc_new w5.drew (.cells #[.int .i64 0, .int .i64 0, .string ⟨#[]⟩, .bool false] 29)
    refine hK.out _ _ (hS _ b6) ?_
    clear hK K'
    try simp only [Act.put, List.setIfInBounds_toArray, List.set_cons_zero, List.set_cons_succ]
    refine QT.forkI_one 11 _ (by rfl) (by kernel_rfl) ?_
    intro K' hK
    rw [if_pos (by rfl)]
    go_simp
    refine (CC.out _).mono ?_
    rintro r w6 ⟨rfl, hb6⟩
    simp only []
    have b7 := b6.trans (hb6.mono b6.size)
    refine hK.out _ _ (hS _ b7) ?_
    clear hK K'
    try simp only [Act.put, List.setIfInBounds_toArray, List.set_cons_zero, List.set_cons_succ]
    refine QT.forkI_take 19 _ _ (by rfl) (by kernel_rfl) (fun _ _ _ _ _ h => h) (hS _ b7) (by rfl) (by intro w' hSw; go_simp; first | done | rfl) ?_
    try simp only [Act.put, List.setIfInBounds_toArray, List.set_cons_zero, List.set_cons_succ]
    refine QT.forkI_nil (by kernel_rfl) ?_
    try simp only [Act.put, List.setIfInBounds_toArray, List.set_cons_zero, List.set_cons_succ]
    obtain ⟨F, hF⟩ : ∃ F, w5.heap.size = F := ⟨_, rfl⟩
    have hF5 : w5.heap.size ≤ F := Nat.le_of_eq hF
    have hF8 := (hb6.block _ (Array.getElem?_eq_some_iff.1 r6).1).trans r6
    have hB8 := b7
    have e5 : w5.drew.heap.size = F := hF
    rw [e5] at hF8
    rw [hF]
    generalize w6 = w8 at hB8 hF8 ⊢
    clear hF b6 b7 r6 hb6 e5
    have hgl8 : g < w8.heap.size := Nat.lt_of_lt_of_le (Array.getElem?_eq_some_iff.1 R5.out).1 hB8.size
    have hgF : g ≠ F := fun e => by have := (Array.getElem?_eq_some_iff.1 R5.out).1; omega
    have hRF : R ≠ F := fun e => by have := (Array.getElem?_eq_some_iff.1 RA5.out).1; omega
    have hgR : g ≠ R := fun e => by have := HRR.out; omega
    have hFg := Ne.symm hgF
    have hFR := Ne.symm hRF
    have hRg := Ne.symm hgR
    have RG := Lib.hid (hS w8 hB8)
    have RR := Lib.hid ((hB8.block R (Array.getElem?_eq_some_iff.1 RA5.out).1).trans RA5.out)
    have RF := Lib.hid hF8
    have B8 := Lib.hid (B5.out.trans (hB8.mono B5.out.size))
    have x0 := (row_cell (j := o) RG.out).trans Q0.out
    have x1 := (row_cell (j := o + 1) RG.out).trans Q1.out
    have x2 := (row_cell (j := o + 2) RG.out).trans Q2.out
    have z0 := row_frz RG.out o
    have z1 := row_frz RG.out (o + 1)
    have z2 := row_frz RG.out (o + 2)
    have y0 := (row_cell (j := 0) RF.out).trans rfl
    have y1 := (row_cell (j := 1) RF.out).trans rfl
    have y2 := (row_cell (j := 2) RF.out).trans rfl
    have y3 := (row_cell (j := 3) RF.out).trans rfl
    have v0 := row_frz RF.out 0
    have v1 := row_frz RF.out 1
    have v2 := row_frz RF.out 2
    have v3 := row_frz RF.out 3
    clear hS hd hB8 hF8
    try simp only [List.drop_succ_cons, List.drop_zero]
    repeat (first | go_skip | go_guarded | go_step | go_upon)
    refine NoPanic.normal ?_
    have RF9 := row_set (j := 3) (row_set (j := 2) (row_set (j := 1) (row_set (j := 0) RF.out (.int .i64 0)) (.int .i64 (s : Nat))) (.string T1)) (.bool lb)
    have hk : ∀ k, k ≠ F → ((((w8.setCell ⟨F, 0, none⟩ (.int .i64 0)).setCell ⟨F, 1, none⟩ (.int .i64 (s : Nat))).setCell ⟨F, 2, none⟩ (.string T1)).setCell ⟨F, 3, none⟩ (.bool lb)).heap[k]? = w8.heap[k]? := fun k h => by
      rw [heap_set_ne h, heap_set_ne h, heap_set_ne h, heap_set_ne h]
    have RG9 := (hk g hgF).trans RG.out
    have RR9 := (hk R hRF).trans RR.out
    have hF0 : w.heap.size ≤ F := by have := B5.out.size; omega
    have B9 : Below w.heap.size w ((((w8.setCell ⟨F, 0, none⟩ (.int .i64 0)).setCell ⟨F, 1, none⟩ (.int .i64 (s : Nat))).setCell ⟨F, 2, none⟩ (.string T1)).setCell ⟨F, 3, none⟩ (.bool lb)) := (((B8.out.setCell (p := ⟨F, 0, none⟩) hF0 _).setCell (p := ⟨F, 1, none⟩) hF0 _).setCell (p := ⟨F, 2, none⟩) hF0 _).setCell (p := ⟨F, 3, none⟩) hF0 _
    clear hk x0 x1 x2 z0 z1 z2 y0 y1 y2 y3 v0 v1 v2 v3 RF RG RR B8
    generalize (((w8.setCell ⟨F, 0, none⟩ (.int .i64 0)).setCell ⟨F, 1, none⟩ (.int .i64 (s : Nat))).setCell ⟨F, 2, none⟩ (.string T1)).setCell ⟨F, 3, none⟩ (.bool lb) = w9 at RF9 RG9 RR9 B9 ⊢
    have x2 := (row_cell (j := o + 2) RG9).trans Q2.out
    have z2 := row_frz RG9 (o + 2)
    have RF := Lib.hid RF9
    have RG := Lib.hid RG9
    have RR := Lib.hid RR9
    have B9 := Lib.hid B9
    clear RF9 RG9 RR9
    repeat (first | go_skip | go_guarded | go_step | go_upon)
    have RF9 := (heap_set_ne (w := w9) (j := o + 2) (v := .string T2) hFg).trans RF.out
    have RG9 := row_set (j := o + 2) RG.out (.string T2)
    have RR9 := (heap_set_ne (w := w9) (j := o + 2) (v := .string T2) hRg).trans RR.out
    have O9 : Out (fun k => k = g) w (w9.setCell ⟨g, o + 2, none⟩ (.string T2)) := (((Out.refl (fun k => k = g) w).then (Out.of_below B9.out) (fun j hj hT => by omega))).setCell (p := ⟨g, o + 2, none⟩) (fun _ => rfl) _
    clear x2 z2 RF RG RR B9
    generalize w9.setCell ⟨g, o + 2, none⟩ (.string T2) = w10 at RF9 RG9 RR9 O9 ⊢
    have RF := Lib.hid RF9
    have RG := Lib.hid RG9
    have RR := Lib.hid RR9
    have O10 := Lib.hid O9
    have y0 := (row_cell (j := 0) RF9).trans rfl
    have y1 := (row_cell (j := 1) RF9).trans rfl
    have y2 := (row_cell (j := 2) RF9).trans rfl
    have y3 := (row_cell (j := 3) RF9).trans rfl
    clear RF9 RG9 RR9 O9
    with_reducible refine QT.region_tail 4 (by kernel_rfl) (by kernel_rfl) ?_
    simp only [List.take_succ_cons, List.take_zero, List.drop_succ_cons, List.drop_zero]
    have p0 := cell_regrown y0
    have p1 := cell_regrown y1
    have p2 := cell_regrown y2
    have p3 := cell_regrown y3
    repeat (go_big_quiet_step (fail))
    refine wpQuiet_nil ?_
    intro _ hw'
    obtain ⟨⟨dq2, osq2⟩, hw''⟩ := hw'
    subst hw''
    have W11 : Hid (Below w10.heap.size w10 (Go.Sort.grow (redrawn w10 dq2) osq2)) := Lib.hid (below_regrown w10 dq2 osq2)
    generalize Go.Sort.grow (redrawn w10 dq2) osq2 = w11 at W11 ⊢
    clear p0 p1 p2 p3 y0 y1 y2 y3
    have hg10 := (Array.getElem?_eq_some_iff.1 RG.out).1
    have RG11 := Lib.hid ((W11.out.block g hg10).trans RG.out)
    have RF11 := Lib.hid ((W11.out.block F (Array.getElem?_eq_some_iff.1 RF.out).1).trans RF.out)
    have RR11 := Lib.hid ((W11.out.block R (Array.getElem?_eq_some_iff.1 RR.out).1).trans RR.out)
    have CP := Lib.hid (pass_any g o s e lb 0 (s : Int) T1 w11 ((row_cell (j := o) RG11.out).trans (by rw [Array.getElem?_setIfInBounds_ne (by omega)]; exact Q0.out)) ((row_cell (j := o + 1) RG11.out).trans (by rw [Array.getElem?_setIfInBounds_ne (by omega)]; exact Q1.out)) (row_frz RG11.out o) (row_frz RG11.out (o + 1)) (Array.getElem?_eq_some_iff.1 RG11.out).1 (by omega))
    repeat (first | (go_at_call 36; fail) | go_skip | go_guarded | go_step | go_upon)
    refine CP.out.mono ?_
    rintro r w12 ⟨rfl, w13, hb13, rfl⟩
    simp only []
    have RG13 := (hb13.block g (Array.getElem?_eq_some_iff.1 RG11.out).1).trans RG11.out
    have RF13 := (heap_set_ne (w := w13.setCell ⟨g, o, none⟩ (.int .i64 (s + T1.size : Nat))) (j := o + 1) (v := .bool lb) hFg).trans ((heap_set_ne (w := w13) (j := o) (v := .int .i64 (s + T1.size : Nat)) hFg).trans ((hb13.block F (Array.getElem?_eq_some_iff.1 RF11.out).1).trans RF11.out))
    have RR13 := (heap_set_ne (w := w13.setCell ⟨g, o, none⟩ (.int .i64 (s + T1.size : Nat))) (j := o + 1) (v := .bool lb) hRg).trans ((heap_set_ne (w := w13) (j := o) (v := .int .i64 (s + T1.size : Nat)) hRg).trans ((hb13.block R (Array.getElem?_eq_some_iff.1 RR11.out).1).trans RR11.out))
    have RG14 := row_set (j := o + 1) (row_set (j := o) RG13 (.int .i64 (s + T1.size : Nat))) (.bool lb)
    have O14 : Out (fun k => k = g) w ((w13.setCell ⟨g, o, none⟩ (.int .i64 (s + T1.size : Nat))).setCell ⟨g, o + 1, none⟩ (.bool lb)) := ((((O10.out.thenBelow W11.out).thenBelow hb13)).setCell (p := ⟨g, o, none⟩) (fun _ => rfl) _).setCell (p := ⟨g, o + 1, none⟩) (fun _ => rfl) _
    rw [hT1z] at RG14 RF13 RR13 O14 ⊢
    clear RG13 hb13 CP RG RF RR O10 W11 RG11 RF11 RR11 hg10
    generalize (w13.setCell ⟨g, o, none⟩ (.int .i64 (s + n : Nat))).setCell ⟨g, o + 1, none⟩ (.bool lb) = w14 at RG14 RF13 RR13 O14 ⊢
    have y0 := (row_cell (j := 0) RF13).trans rfl
    have y1 := (row_cell (j := 1) RF13).trans rfl
    have y2 := (row_cell (j := 2) RF13).trans rfl
    have y3 := (row_cell (j := 3) RF13).trans rfl
    have x0 := (row_cell (j := 0) RR13).trans rfl
    have x1 := (row_cell (j := 1) RR13).trans rfl
    have x2 := (row_cell (j := 2) RR13).trans rfl
    have x3 := (row_cell (j := 3) RR13).trans rfl
    have v0 := row_frz RR13 0
    have v1 := row_frz RR13 1
    have v2 := row_frz RR13 2
    have v3 := row_frz RR13 3
    have RG := Lib.hid RG14
    have RR := Lib.hid RR13
    have O14 := Lib.hid O14
    clear RG14 RF13 RR13
    repeat (first | go_skip | go_guarded | go_step | go_upon)
    have RR15 : ((((w14.setCell ⟨R, 0, none⟩ (.int .i64 0)).setCell ⟨R, 1, none⟩ (.int .i64 (s : Nat))).setCell ⟨R, 2, none⟩ (.string T1)).setCell ⟨R, 3, none⟩ (.bool lb)).heap[R]? = some (.cells #[.int .i64 0, .int .i64 (s : Nat), .string T1, .bool lb] 29 (0, 0)) := row_set (j := 3) (row_set (j := 2) (row_set (j := 1) (row_set (j := 0) RR.out (.int .i64 0)) (.int .i64 (s : Nat))) (.string T1)) (.bool lb)
    refine bodyPost_ret (v := .agg #[.int .i64 0, .int .i64 (s : Nat), .string T1, .bool lb]) (results_cell_row rfl _ _ R 29 _ (0, 0) _ rfl RR15 Try.underlying29 rfl (by kernel_rfl)) rfl ⟨rfl, ?_, ?_⟩
    · rw [heap_set_ne hgR, heap_set_ne hgR, heap_set_ne hgR, heap_set_ne hgR]
      exact RG.out
    · have hRw : w.heap.size ≤ R := Nat.le_of_eq HRR.out
      have hin : ∀ k : Nat, k = R → k < w.heap.size → k = g := fun k e h => by omega
      exact (((O14.out.setCell (p := ⟨R, 0, none⟩) (hin R rfl) _).setCell (p := ⟨R, 1, none⟩) (hin R rfl) _).setCell (p := ⟨R, 2, none⟩) (hin R rfl) _).setCell (p := ⟨R, 3, none⟩) (hin R rfl) _
end MX
end Go.Proofs.Ytdkfoakmjeealaa
