/- Layer 16: a sender's Send. -/
import Derived.Test.YtdkfoakmjeealaaQMxReady
import Derived.Lib.MinMax
set_option linter.all false
set_option maxRecDepth 100000
set_option maxHeartbeats 25600000
namespace Go.Proofs.Ytdkfoakmjeealaa
open Go.RowKit Go.Lib Go.BigFrame
namespace MX
open OM FP

def noF : Value := .agg #[.int .i64 0, .int .i64 0, .string ⟨#[]⟩, .bool false]
theorem results_cell_row2 {P : Program} {fn : Func} {p u : Tmp} {ty : TypeId} (h : fn.results = #[.cell p ty, .tmp u]) (tmps : Array Value) (w : World) (g : Nat) (t : TypeId) (cs : Array Value) (fr : Nat × Nat) (d : TypeDesc) {y : Value}
    (hp : tmps.getD p undef = .pointer (some ⟨g, 0, none⟩)) (hy : tmps.getD u undef = y) (hg : w.heap[g]? = some (.cells cs t fr))
    (hu : P.underlying ty = some d) (hd : (match d with | .struct _ | .array _ _ => true | _ => false) = true) (hi : (P.info? ty).map (·.size) = some cs.size) :
    (results fn tmps).run P w = .ok (.tuple #[.agg cs, y]) w := by
  rw [results_cell_tmp h, hp, hy]
  simp [asAddr, run_loadVar_row w g t ty cs fr d hg hu hd hi, Result.andThen]
theorem set_mid0 {A r B : List Value} {n : Nat} (hA : A.length = n) (hj : 0 < r.length) (u : Value) : (A ++ r ++ B).set n u = A ++ r.set 0 u ++ B := set_mid (j := 0) hA hj u
/-- What a piece leaves. -/
theorem OutA.sent {b : Nat} {W S : Int} {cs : List Cl} {w w' : World} {g k i : Nat} {c : Cl} {cur : Array Value} (h : OutA b W S cs (.slice (some ⟨g, 0, none⟩) cs.length k) w) (hc : cs[i]? = some c) (hr : w.heap[g]? = some (.cells cur 79 (0, 0)))
    (hr' : w'.heap[g]? = some (.cells (((cur.setIfInBounds (i * 4 + 2) (txt (c.text.drop (c.sent + pieceN W S c)))).setIfInBounds (i * 4) (.int .i64 (c.sent + pieceN W S c : Nat))).setIfInBounds (i * 4 + 1) (.bool (decide (c.sent + pieceN W S c = c.text.length)))) 79 (0, 0))) (hb : w'.heap[b]? = w.heap[b]?) :
    OutA b W S (cs.set i (goOn W S c)) (.slice (some ⟨g, 0, none⟩) cs.length k) w' := by
  have hi := (List.getElem?_eq_some_iff.1 hc).1
  obtain ⟨g', k', cur2, e, hr2, ht, hm, hne, -⟩ := h.at hc
  injection e with e1 _ e3
  injection e1 with e1
  injection e1 with e1 _ _
  subst e1 e3
  rw [hr] at hr2
  injection hr2 with hr2
  injection hr2 with hr2 _ _
  subst hr2
  have hA : ((cs.take i).flatMap goC).length = i * 4 := by rw [rows_len goC_len, List.length_take, Nat.min_eq_left (by omega)]
  refine ⟨hb.trans h.row, ?_⟩
  rw [List.length_set]
  refine own_turn h.own hr hr' (by simp) (by unfold gosC; rw [rows_len goC_len, rows_len goC_len, List.length_set]) ?_
  rw [Array.toList_setIfInBounds, Array.toList_setIfInBounds, Array.toList_setIfInBounds, List.take_set, List.take_set, List.take_set, ht]
  unfold gosC
  rw [rows_mid hc, rows_put _ hi, set_mid hA (by show 2 < 4; decide), set_mid0 hA (by show 0 < 4; decide), set_mid hA (by show 1 < 4; decide)]
  rfl
/-- What a Send says and leaves. -/
def SendPost (b : Nat) (W S : Int) (cs : List Cl) (v : Value) (pick : Int) (w : World) (r : Ending) (w' : World) : Prop :=
  match chosen W cs pick with
  | none => r = .returned (.tuple #[noF, .bool false]) ∧ Below w.heap.size w w'
  | some i => ∃ c, cs[i]? = some c ∧ r = .returned (.tuple #[frV (frO W S i c), .bool true]) ∧ OutA b W S (cs.set i (goOn W S c)) v w' ∧ Out (mo b v) w w'
set_option maxRecDepth 100000 in
set_option maxHeartbeats 6400000 in
theorem send_no (b : Nat) (W S : Int) (cs : List Cl) (v : Value) (pick : Int) (w : World) (h : OutA b W S cs v w) (hok : ∀ c ∈ cs, c.Ok) (hW : 1 ≤ W) (hW2 : W ≤ 9223372036854775807) (h64 : cs.length ≤ 64) (hn : readyTo W cs cs.length = []) :
    Calls Try.prog 8 #[ptr b, .int .i64 pick] w fun r w' => r = .returned (.tuple #[noF, .bool false]) ∧ Below w.heap.size w w' := by
  obtain ⟨wA, hwA⟩ : ∃ wA, w.alloc (.cells #[.int .i64 0, .int .i64 0, .string ⟨#[]⟩, .bool false] 29) = wA := ⟨_, rfl⟩
  have hbA : Below w.heap.size w wA := hwA ▸ (Below.refl _ _).alloc (Nat.le_refl _) _
  have hrA : wA.heap[w.heap.size]? = some (.cells #[.int .i64 0, .int .i64 0, .string ⟨#[]⟩, .bool false] 29 (0, 0)) := hwA ▸ heap_alloc_new w _
  obtain ⟨R, hR⟩ : ∃ R, w.heap.size = R := ⟨_, rfl⟩
  rw [hR] at hrA
  have HRR := Lib.hid hR
  have HBA := Lib.hid hbA
  have HRA := Lib.hid hrA
  have CR := Lib.hid (ready_any b W S cs v wA (h.below hbA) hok hW hW2 h64)
  rw [hn] at CR
  clear h hok hbA hrA hn
  go_enter Try.func8, Try.ntmps8
  repeat (first | (go_at_call 29; fail) | go_skip | go_guarded | go_step | go_upon)
  refine CR.out.mono ?_
  rintro r w2 ⟨u, rfl, ho, hb⟩
  simp only []
  obtain ⟨a2, k2, rfl, -⟩ := owns_view ho
  have RR2 := Lib.hid ((hb.block R (Array.getElem?_eq_some_iff.1 HRA.out).1).trans HRA.out)
  have B2 := Lib.hid (HBA.out.trans (hb.mono HBA.out.size))
  have x0 := (row_cell (j := 0) RR2.out).trans rfl
  have x1 := (row_cell (j := 1) RR2.out).trans rfl
  have x2 := (row_cell (j := 2) RR2.out).trans rfl
  have x3 := (row_cell (j := 3) RR2.out).trans rfl
  have v0 := row_frz RR2.out 0
  have v1 := row_frz RR2.out 1
  have v2 := row_frz RR2.out 2
  have v3 := row_frz RR2.out 3
  clear ho hb
  simp only [List.length_nil]
  repeat (first | go_skip | go_guarded | go_step | go_upon)
  have RR15 : ((((w2.setCell ⟨R, 0, none⟩ (.int .i64 0)).setCell ⟨R, 1, none⟩ (.int .i64 0)).setCell ⟨R, 2, none⟩ (.string ⟨#[]⟩)).setCell ⟨R, 3, none⟩ (.bool false)).heap[R]? = some (.cells #[.int .i64 0, .int .i64 0, .string ⟨#[]⟩, .bool false] 29 (0, 0)) := row_set (j := 3) (row_set (j := 2) (row_set (j := 1) (row_set (j := 0) RR2.out (.int .i64 0)) (.int .i64 0)) (.string ⟨#[]⟩)) (.bool false)
  refine bodyPost_ret (v := .tuple #[noF, .bool false]) (results_cell_row2 rfl _ _ R 29 _ (0, 0) _ rfl rfl RR15 Try.underlying29 rfl (by kernel_rfl)) rfl ⟨rfl, ?_⟩
  have hRw : w.heap.size ≤ R := Nat.le_of_eq HRR.out
  exact (((B2.out.setCell (p := ⟨R, 0, none⟩) hRw _).setCell (p := ⟨R, 1, none⟩) hRw _).setCell (p := ⟨R, 2, none⟩) hRw _).setCell (p := ⟨R, 3, none⟩) hRw _
set_option maxRecDepth 100000 in
set_option maxHeartbeats 6400000 in
theorem send_yes (b : Nat) (W S : Int) (cs : List Cl) (v : Value) (pick : Int) (w : World) (i : Nat) (c : Cl) (h : OutA b W S cs v w) (hok : ∀ c ∈ cs, c.Ok) (hW : 1 ≤ W) (hW2 : W ≤ 9223372036854775807) (hS : 1 ≤ S) (hS2 : S ≤ 9223372036854775807) (h64 : cs.length ≤ 64)
    (hp2 : pick ≤ 9223372036854775807) (hc : cs[i]? = some c) (hmay : mayB W c = true) (hi : (readyTo W cs cs.length)[(max pick 0).toNat % (readyTo W cs cs.length).length]? = some i) :
    Calls Try.prog 8 #[ptr b, .int .i64 pick] w fun r w' => r = .returned (.tuple #[frV (frO W S i c), .bool true]) ∧ OutA b W S (cs.set i (goOn W S c)) v w' ∧ Out (mo b v) w w' := by
  obtain ⟨wA, hwA⟩ : ∃ wA, w.alloc (.cells #[.int .i64 0, .int .i64 0, .string ⟨#[]⟩, .bool false] 29) = wA := ⟨_, rfl⟩
  have hbA : Below w.heap.size w wA := hwA ▸ (Below.refl _ _).alloc (Nat.le_refl _) _
  have hrA : wA.heap[w.heap.size]? = some (.cells #[.int .i64 0, .int .i64 0, .string ⟨#[]⟩, .bool false] 29 (0, 0)) := hwA ▸ heap_alloc_new w _
  obtain ⟨R, hR⟩ : ∃ R, w.heap.size = R := ⟨_, rfl⟩
  rw [hR] at hrA
  have HRR := Lib.hid hR
  have HBA := Lib.hid hbA
  have HRA := Lib.hid hrA
  have CR := Lib.hid (ready_any b W S cs v wA (h.below hbA) hok hW hW2 h64)
  have hway : (c.way : Int) < W := by
    unfold mayB at hmay
    simp only [Bool.and_eq_true, decide_eq_true_eq] at hmay
    exact hmay.2
  have hcok := hok c (List.mem_of_getElem? hc)
  have HI := Lib.hid hi
  have hzp : 0 < (readyTo W cs cs.length).length := by
    rcases Nat.eq_zero_or_pos (readyTo W cs cs.length).length with h0 | h0
    · rw [List.eq_nil_of_length_eq_zero h0] at hi; simp at hi
    · exact h0
  have hzl := ready_len W cs cs.length
  obtain ⟨L, hL⟩ : ∃ L, readyTo W cs cs.length = L := ⟨_, rfl⟩
  rw [hL] at CR HI hzp hzl
  obtain ⟨z, hz⟩ : ∃ z, L.length = z := ⟨_, rfl⟩
  rw [hz] at CR HI hzp hzl
  obtain ⟨p, hp⟩ : ∃ p : Nat, max pick 0 = p := ⟨(max pick 0).toNat, by omega⟩
  have hpt : (max pick 0).toNat = p := by omega
  rw [hpt] at HI
  obtain ⟨q, hq⟩ : ∃ q, p % z = q := ⟨_, rfl⟩
  rw [hq] at HI
  have hqz : q < z := by rw [← hq]; exact Nat.mod_lt _ hzp
  have hmod : (p : Int).tmod (z : Int) = (q : Nat) := by rw [← hq]; exact Int.ofNat_tmod p z ▸ rfl
  have hpz : (p : Int) ≤ 9223372036854775807 := by omega
  have hzz : (0 : Int) < z := by omega
  have hz64 : (z : Int) ≤ 64 := by omega
  have hqzz : (q : Int) < z := by omega
  obtain ⟨g, k, cur, rfl, hr, ht, hm, hne, q0, q1, q2, q3⟩ := h.at hc
  obtain ⟨X, hX⟩ : ∃ X : ByteArray, ⟨((c.text.drop c.sent).take (pieceN W S c)).toArray⟩ = X := ⟨_, rfl⟩
  obtain ⟨lb, hlb⟩ : ∃ lb, decide (c.sent + pieceN W S c = c.text.length) = lb := ⟨_, rfl⟩
  obtain ⟨s0, hs0⟩ : ∃ s0 : Int, ((c.sent : Nat) : Int) = s0 := ⟨_, rfl⟩
  obtain ⟨cur', hcur⟩ : ∃ cur' : Array Value, ((cur.setIfInBounds (i * 4 + 2) (txt (c.text.drop (c.sent + pieceN W S c)))).setIfInBounds (i * 4) (.int .i64 (c.sent + pieceN W S c : Nat))).setIfInBounds (i * 4 + 1) (.bool (decide (c.sent + pieceN W S c = c.text.length))) = cur' := ⟨_, rfl⟩
  have CPc : Hid (∀ W1 : World, W1.heap[g]? = some (.cells cur 79 (0, 0)) → Calls Try.prog 30 #[.pointer (some ⟨g, i * 4, none⟩), .int .i64 W, .int .i64 S] W1 fun r w' => r = .returned (.agg #[.int .i64 0, .int .i64 s0, .string X, .bool lb]) ∧ w'.heap[g]? = some (.cells cur' 79 (0, 0)) ∧ Out (fun k => k = g) W1 w') := Lib.hid (fun W1 hr1 => (piece_any g (i * 4) c W S cur W1 hr1 q0 q1 q2 q3 hcok hS hS2 hway hW2).mono (by
    rintro r w' ⟨h1, h2, h3⟩
    exact ⟨by rw [h1, ← hs0, ← hX, ← hlb]; rfl, by rw [← hcur]; exact h2, h3⟩))
  have HFr : Hid (frV (frO W S i c) = .agg #[.int .i64 (i : Nat), .int .i64 s0, .string X, .bool lb]) := Lib.hid (by rw [← hs0, ← hX, ← hlb]; rfl)
  have HCur := Lib.hid hcur
  rw [HFr.out]
  have H := Lib.hid h
  have HG := Lib.hid hr
  have HCc := Lib.hid hc
  have il := (List.getElem?_eq_some_iff.1 hc).1
  have hgl := (Array.getElem?_eq_some_iff.1 hr).1
  have hbl := (Array.getElem?_eq_some_iff.1 h.row).1
  clear h hok hbA hrA hi hmay hL hz hq hp2 hpt hr ht q0 q1 q2 q3 hc hcok hX hlb hs0 hcur
  go_enter Try.func8, Try.ntmps8
  repeat (first | (go_at_call 29; fail) | go_skip | go_guarded | go_step | go_upon)
  refine CR.out.mono ?_
  rintro r w2 ⟨u, rfl, ho, hb⟩
  simp only []
  have B2 := Lib.hid (HBA.out.trans (hb.mono HBA.out.size))
  obtain ⟨a2, k2, rfl, hx⟩ := owns_view ho
  obtain ⟨G, rfl, hGl, hG0, hcell⟩ := hx hzp
  have cq := (hcell q (by omega)).trans (show (L.map natV)[q]? = some (natV i) by rw [List.getElem?_map, HI.out]; rfl)
  unfold natV at cq
  have RR2 := Lib.hid ((hb.block R (Array.getElem?_eq_some_iff.1 HRA.out).1).trans HRA.out)
  have RG2 := Lib.hid ((B2.out.block g hgl).trans HG.out)
  have RB2 := Lib.hid ((B2.out.block b hbl).trans H.out.row)
  have b0 := (row_cell (j := 0) RB2.out).trans rfl
  have b1 := (row_cell (j := 1) RB2.out).trans rfl
  have b2 := (row_cell (j := 2) RB2.out).trans rfl
  obtain ⟨n, hn⟩ : ∃ n, cs.length = n := ⟨_, rfl⟩
  rw [hn] at b0 il
  have ilz : (i : Int) < n := by omega
  clear ho hb hx hcell
  repeat (first | go_skip | go_guarded | go_step | go_upon)
  refine wp_region_noPanic ?_
  with_reducible refine QT.region_forkI (S := fun W' => W'.heap[b]? = some (.cells #[.slice (some ⟨g, 0, none⟩) n k, .int .i64 W, .int .i64 S] 75 (0, 0))) [0, 1, 2, 3, 4, 5, 6, 7, 8, 9, 10, 11, 12, 13, 14] 2 17 (by kernel_rfl) (by kernel_rfl) ?_ ?_ ?_
  · exact fun _ _ _ _ _ h => h
  · rw [← hn]; exact RB2.out
  intro _
  simp only [QT.pick, List.filterMap_cons, List.filterMap_nil, List.getElem?_cons_succ, List.getElem?_cons_zero, List.drop_succ_cons, List.drop_zero]
  iterate 15 (refine QT.wpTake_cons _ (by rfl) (by intro w' hSw; have x0 := (row_cell (j := 0) hSw).trans rfl; have x1 := (row_cell (j := 1) hSw).trans rfl; have x2 := (row_cell (j := 2) hSw).trans rfl; go_simp; first | done | rfl) ?_; try simp only [Act.put, List.setIfInBounds_toArray, List.set_cons_zero, List.set_cons_succ])
  refine QT.wpTake_nil ?_
  have hbS : ∀ W1 : World, W1.heap[b]? = w2.heap[b]? → W1.heap[b]? = some (.cells #[.slice (some ⟨g, 0, none⟩) n k, .int .i64 W, .int .i64 S] 75 (0, 0)) := by rw [← hn]; exact fun W1 hb => hb.trans RB2.out
  have hd : Below w2.heap.size w2 w2.drew := (Below.refl _ _).drew
  have hg2 := (Array.getElem?_eq_some_iff.1 RG2.out).1
  have hR2 := (Array.getElem?_eq_some_iff.1 RR2.out).1
  have hb2 := (Array.getElem?_eq_some_iff.1 RB2.out).1
  have hs2 := B2.out.size
  clear cq b0 b1 b2 il
  refine QT.forkI_two 15 16 _ _ (by rfl) (by rfl) (by kernel_rfl) ?_ ?_
  · intro K' hK
    rw [if_pos (by rfl)]
    go_simp
    refine (CPc.out _ ((hd.block g hg2).trans RG2.out)).mono ?_
    rintro r w6 ⟨rfl, hG6, hO6⟩
    simp only []
    have o6 : Out (fun k => k = g) w2 w6 := ((Out.refl _ w2).drew).trans hO6
    refine hK.out _ _ (hbS _ (o6.block b hb2 (fun e => hne e.symm))) ?_
    clear hK K' hO6
    try simp only [Act.put, List.setIfInBounds_toArray, List.set_cons_zero, List.set_cons_succ]
    refine QT.forkI_one 16 _ (by rfl) (by kernel_rfl) ?_
    intro K' hK
    rw [if_pos (by rfl)]
    go_simp
    refine hK.out _ _ (hbS _ ((o6.alloc _).block b hb2 (fun e => hne e.symm))) ?_
    clear hK K'
    try simp only [Act.put, List.setIfInBounds_toArray, List.set_cons_zero, List.set_cons_succ]
    refine QT.forkI_nil (by kernel_rfl) ?_
    try simp only [Act.put, List.setIfInBounds_toArray, List.set_cons_zero, List.set_cons_succ]
    obtain ⟨F, hF⟩ : ∃ F, w6.heap.size = F := ⟨_, rfl⟩
    have hF5 : w2.heap.size ≤ F := hF ▸ o6.size
    have hO8 := o6.alloc (.cells #[.int .i64 0, .int .i64 0, .string ⟨#[]⟩, .bool false] 29)
    have hF8 := heap_alloc_new w6 (.cells #[.int .i64 0, .int .i64 0, .string ⟨#[]⟩, .bool false] 29)
    have hG8 := ((((Below.refl w6.heap.size w6).alloc (Nat.le_refl _) (.cells #[.int .i64 0, .int .i64 0, .string ⟨#[]⟩, .bool false] 29))).block g (Array.getElem?_eq_some_iff.1 hG6).1).trans hG6
    rw [hF] at hF8 ⊢
    generalize w6.alloc (.cells #[.int .i64 0, .int .i64 0, .string ⟨#[]⟩, .bool false] 29) = w8 at hO8 hF8 hG8 ⊢
    clear hF o6 hG6
    have hgF : g ≠ F := fun e => by omega
    have hRF : R ≠ F := fun e => by omega
    have hgR : g ≠ R := fun e => by have := HRR.out; omega
    have hFR := Ne.symm hRF
    have RR := Lib.hid ((hO8.block R hR2 (fun e => hgR e.symm)).trans RR2.out)
    have RF := Lib.hid hF8
    have FG := Lib.hid hG8
    have O8 : Hid (Out (fun k => k = g) w w8) := Lib.hid (((Out.of_below B2.out).mono (fun k h1 h2 => by omega)).trans hO8)
    have RB := Lib.hid ((hO8.block b hb2 (fun e => hne e.symm)).trans (B2.out.block b hbl))
    have y0 := (row_cell (j := 0) RF.out).trans rfl
    have y1 := (row_cell (j := 1) RF.out).trans rfl
    have y2 := (row_cell (j := 2) RF.out).trans rfl
    have y3 := (row_cell (j := 3) RF.out).trans rfl
    have v0 := row_frz RF.out 0
    have v1 := row_frz RF.out 1
    have v2 := row_frz RF.out 2
    have v3 := row_frz RF.out 3
    clear hF8 hG8 hO8
    try simp only [List.drop_succ_cons, List.drop_zero]
    repeat (first | go_skip | go_guarded | go_step | go_upon)
    refine NoPanic.normal ?_
    have RF9 : ((((w8.setCell ⟨F, 0, none⟩ (.int .i64 0)).setCell ⟨F, 1, none⟩ (.int .i64 s0)).setCell ⟨F, 2, none⟩ (.string X)).setCell ⟨F, 3, none⟩ (.bool lb)).heap[F]? = some (.cells #[.int .i64 0, .int .i64 s0, .string X, .bool lb] 29 (0, 0)) := row_set (j := 3) (row_set (j := 2) (row_set (j := 1) (row_set (j := 0) RF.out (.int .i64 0)) (.int .i64 s0)) (.string X)) (.bool lb)
    have hk : ∀ k, k ≠ F → ((((w8.setCell ⟨F, 0, none⟩ (.int .i64 0)).setCell ⟨F, 1, none⟩ (.int .i64 s0)).setCell ⟨F, 2, none⟩ (.string X)).setCell ⟨F, 3, none⟩ (.bool lb)).heap[k]? = w8.heap[k]? := fun k h => by
      rw [heap_set_ne h, heap_set_ne h, heap_set_ne h, heap_set_ne h]
    have hin : ∀ k : Nat, k = F → k < w.heap.size → k = g := fun k e h => by omega
    have O9 : Out (fun k => k = g) w ((((w8.setCell ⟨F, 0, none⟩ (.int .i64 0)).setCell ⟨F, 1, none⟩ (.int .i64 s0)).setCell ⟨F, 2, none⟩ (.string X)).setCell ⟨F, 3, none⟩ (.bool lb)) := (((O8.out.setCell (p := ⟨F, 0, none⟩) (hin F rfl) _).setCell (p := ⟨F, 1, none⟩) (hin F rfl) _).setCell (p := ⟨F, 2, none⟩) (hin F rfl) _).setCell (p := ⟨F, 3, none⟩) (hin F rfl) _
    have FG9 := (hk g hgF).trans FG.out
    have RR9 := (hk R hRF).trans RR.out
    have RB9 := (hk b (by omega)).trans RB.out
    clear hk y0 y1 y2 y3 v0 v1 v2 v3 RF RR FG O8 RB
    generalize (((w8.setCell ⟨F, 0, none⟩ (.int .i64 0)).setCell ⟨F, 1, none⟩ (.int .i64 s0)).setCell ⟨F, 2, none⟩ (.string X)).setCell ⟨F, 3, none⟩ (.bool lb) = w9 at RF9 FG9 RR9 RB9 O9 ⊢
    have y0 := (row_cell (j := 0) RF9).trans rfl
    have y1 := (row_cell (j := 1) RF9).trans rfl
    have y2 := (row_cell (j := 2) RF9).trans rfl
    have y3 := (row_cell (j := 3) RF9).trans rfl
    have u0 := row_frz RF9 0
    have x0 := (row_cell (j := 0) RR9).trans rfl
    have x1 := (row_cell (j := 1) RR9).trans rfl
    have x2 := (row_cell (j := 2) RR9).trans rfl
    have x3 := (row_cell (j := 3) RR9).trans rfl
    have v0 := row_frz RR9 0
    have v1 := row_frz RR9 1
    have v2 := row_frz RR9 2
    have v3 := row_frz RR9 3
    have RF := Lib.hid RF9
    have RR := Lib.hid RR9
    have FG := Lib.hid FG9
    have RB := Lib.hid RB9
    have O9 := Lib.hid O9
    clear RF9 RR9 FG9 RB9
    repeat (first | go_skip | go_guarded | go_step | go_upon)
    have RR15 : (((((w9.setCell ⟨F, 0, none⟩ (.int .i64 (i : Nat))).setCell ⟨R, 0, none⟩ (.int .i64 (i : Nat))).setCell ⟨R, 1, none⟩ (.int .i64 s0)).setCell ⟨R, 2, none⟩ (.string X)).setCell ⟨R, 3, none⟩ (.bool lb)).heap[R]? = some (.cells #[.int .i64 (i : Nat), .int .i64 s0, .string X, .bool lb] 29 (0, 0)) := row_set (j := 3) (row_set (j := 2) (row_set (j := 1) (row_set (j := 0) ((heap_set_ne hRF).trans RR.out) (.int .i64 (i : Nat))) (.int .i64 s0)) (.string X)) (.bool lb)
    refine bodyPost_ret (v := .tuple #[.agg #[.int .i64 (i : Nat), .int .i64 s0, .string X, .bool lb], .bool true]) (results_cell_row2 rfl _ _ R 29 _ (0, 0) _ rfl rfl RR15 Try.underlying29 rfl (by kernel_rfl)) rfl ⟨rfl, ?_, ?_⟩
    · refine OutA.sent H.out HCc.out HG.out ?_ ?_
      · rw [HCur.out, heap_set_ne hgR, heap_set_ne hgR, heap_set_ne hgR, heap_set_ne hgR, heap_set_ne hgF]
        exact FG.out
      · have hbR : b ≠ R := fun e => by have := HRR.out; omega
        have hbF : b ≠ F := fun e => by omega
        rw [heap_set_ne hbR, heap_set_ne hbR, heap_set_ne hbR, heap_set_ne hbR, heap_set_ne hbF]
        exact RB.out
    · have hinR : ∀ k : Nat, k = R → k < w.heap.size → k = g := fun k e h => by have := HRR.out; omega
      have hO := (((((O9.out.setCell (p := ⟨F, 0, none⟩) (hin F rfl) (.int .i64 (i : Nat))).setCell (p := ⟨R, 0, none⟩) (hinR R rfl) (.int .i64 (i : Nat))).setCell (p := ⟨R, 1, none⟩) (hinR R rfl) (.int .i64 s0)).setCell (p := ⟨R, 2, none⟩) (hinR R rfl) (.string X)).setCell (p := ⟨R, 3, none⟩) (hinR R rfl) (.bool lb))
      exact hO.mono (fun k _ e => .inr (by rw [e]; rfl))
  · intro K' hK
    rw [if_pos (by rfl)]
    go_simp
    have b6 : Below w2.heap.size w2 (w2.drew.alloc (.cells #[.int .i64 0, .int .i64 0, .string ⟨#[]⟩, .bool false] 29)) := hd.alloc (Nat.le_refl _) _
    have r6 := heap_alloc_new w2.drew (.cells #[.int .i64 0, .int .i64 0, .string ⟨#[]⟩, .bool false] 29)
    refine hK.out _ _ (hbS _ (b6.block b hb2)) ?_
    clear hK K'
    try simp only [Act.put, List.setIfInBounds_toArray, List.set_cons_zero, List.set_cons_succ]
    refine QT.forkI_one 15 _ (by rfl) (by kernel_rfl) ?_
    intro K' hK
    rw [if_pos (by rfl)]
    go_simp
    refine (CPc.out _ ((b6.block g hg2).trans RG2.out)).mono ?_
    rintro r w6 ⟨rfl, hG6, hO6⟩
    simp only []
    have o6 : Out (fun k => k = g) w2 w6 := ((Out.of_below b6).mono (fun k h1 h2 => by omega)).trans hO6
    refine hK.out _ _ (hbS _ (o6.block b hb2 (fun e => hne e.symm))) ?_
    clear hK K'
    try simp only [Act.put, List.setIfInBounds_toArray, List.set_cons_zero, List.set_cons_succ]
    refine QT.forkI_nil (by kernel_rfl) ?_
    try simp only [Act.put, List.setIfInBounds_toArray, List.set_cons_zero, List.set_cons_succ]
    obtain ⟨F, hF⟩ : ∃ F, w2.heap.size = F := ⟨_, rfl⟩
    have hF5 : w2.heap.size ≤ F := Nat.le_of_eq hF
    have hF8 := (hO6.block _ (Array.getElem?_eq_some_iff.1 r6).1 (fun e => by have : w2.drew.heap.size = w2.heap.size := rfl; omega)).trans r6
    have hO8 := o6
    have hG8 := hG6
    have e5 : w2.drew.heap.size = F := hF
    rw [e5] at hF8
    rw [hF]
    generalize w6 = w8 at hO8 hF8 hG8 ⊢
    clear hF b6 o6 r6 hG6 hO6 e5
    have hgF : g ≠ F := fun e => by omega
    have hRF : R ≠ F := fun e => by omega
    have hgR : g ≠ R := fun e => by have := HRR.out; omega
    have hFR := Ne.symm hRF
    have RR := Lib.hid ((hO8.block R hR2 (fun e => hgR e.symm)).trans RR2.out)
    have RF := Lib.hid hF8
    have FG := Lib.hid hG8
    have O8 : Hid (Out (fun k => k = g) w w8) := Lib.hid (((Out.of_below B2.out).mono (fun k h1 h2 => by omega)).trans hO8)
    have RB := Lib.hid ((hO8.block b hb2 (fun e => hne e.symm)).trans (B2.out.block b hbl))
    have y0 := (row_cell (j := 0) RF.out).trans rfl
    have y1 := (row_cell (j := 1) RF.out).trans rfl
    have y2 := (row_cell (j := 2) RF.out).trans rfl
    have y3 := (row_cell (j := 3) RF.out).trans rfl
    have v0 := row_frz RF.out 0
    have v1 := row_frz RF.out 1
    have v2 := row_frz RF.out 2
    have v3 := row_frz RF.out 3
    clear hF8 hG8 hO8
    try simp only [List.drop_succ_cons, List.drop_zero]
    repeat (first | go_skip | go_guarded | go_step | go_upon)
    refine NoPanic.normal ?_
    have RF9 : ((((w8.setCell ⟨F, 0, none⟩ (.int .i64 0)).setCell ⟨F, 1, none⟩ (.int .i64 s0)).setCell ⟨F, 2, none⟩ (.string X)).setCell ⟨F, 3, none⟩ (.bool lb)).heap[F]? = some (.cells #[.int .i64 0, .int .i64 s0, .string X, .bool lb] 29 (0, 0)) := row_set (j := 3) (row_set (j := 2) (row_set (j := 1) (row_set (j := 0) RF.out (.int .i64 0)) (.int .i64 s0)) (.string X)) (.bool lb)
    have hk : ∀ k, k ≠ F → ((((w8.setCell ⟨F, 0, none⟩ (.int .i64 0)).setCell ⟨F, 1, none⟩ (.int .i64 s0)).setCell ⟨F, 2, none⟩ (.string X)).setCell ⟨F, 3, none⟩ (.bool lb)).heap[k]? = w8.heap[k]? := fun k h => by
      rw [heap_set_ne h, heap_set_ne h, heap_set_ne h, heap_set_ne h]
    have hin : ∀ k : Nat, k = F → k < w.heap.size → k = g := fun k e h => by omega
    have O9 : Out (fun k => k = g) w ((((w8.setCell ⟨F, 0, none⟩ (.int .i64 0)).setCell ⟨F, 1, none⟩ (.int .i64 s0)).setCell ⟨F, 2, none⟩ (.string X)).setCell ⟨F, 3, none⟩ (.bool lb)) := (((O8.out.setCell (p := ⟨F, 0, none⟩) (hin F rfl) _).setCell (p := ⟨F, 1, none⟩) (hin F rfl) _).setCell (p := ⟨F, 2, none⟩) (hin F rfl) _).setCell (p := ⟨F, 3, none⟩) (hin F rfl) _
    have FG9 := (hk g hgF).trans FG.out
    have RR9 := (hk R hRF).trans RR.out
    have RB9 := (hk b (by omega)).trans RB.out
    clear hk y0 y1 y2 y3 v0 v1 v2 v3 RF RR FG O8 RB
    generalize (((w8.setCell ⟨F, 0, none⟩ (.int .i64 0)).setCell ⟨F, 1, none⟩ (.int .i64 s0)).setCell ⟨F, 2, none⟩ (.string X)).setCell ⟨F, 3, none⟩ (.bool lb) = w9 at RF9 FG9 RR9 RB9 O9 ⊢
    have y0 := (row_cell (j := 0) RF9).trans rfl
    have y1 := (row_cell (j := 1) RF9).trans rfl
    have y2 := (row_cell (j := 2) RF9).trans rfl
    have y3 := (row_cell (j := 3) RF9).trans rfl
    have u0 := row_frz RF9 0
    have x0 := (row_cell (j := 0) RR9).trans rfl
    have x1 := (row_cell (j := 1) RR9).trans rfl
    have x2 := (row_cell (j := 2) RR9).trans rfl
    have x3 := (row_cell (j := 3) RR9).trans rfl
    have v0 := row_frz RR9 0
    have v1 := row_frz RR9 1
    have v2 := row_frz RR9 2
    have v3 := row_frz RR9 3
    have RF := Lib.hid RF9
    have RR := Lib.hid RR9
    have FG := Lib.hid FG9
    have RB := Lib.hid RB9
    have O9 := Lib.hid O9
    clear RF9 RR9 FG9 RB9
    repeat (first | go_skip | go_guarded | go_step | go_upon)
    have RR15 : (((((w9.setCell ⟨F, 0, none⟩ (.int .i64 (i : Nat))).setCell ⟨R, 0, none⟩ (.int .i64 (i : Nat))).setCell ⟨R, 1, none⟩ (.int .i64 s0)).setCell ⟨R, 2, none⟩ (.string X)).setCell ⟨R, 3, none⟩ (.bool lb)).heap[R]? = some (.cells #[.int .i64 (i : Nat), .int .i64 s0, .string X, .bool lb] 29 (0, 0)) := row_set (j := 3) (row_set (j := 2) (row_set (j := 1) (row_set (j := 0) ((heap_set_ne hRF).trans RR.out) (.int .i64 (i : Nat))) (.int .i64 s0)) (.string X)) (.bool lb)
    refine bodyPost_ret (v := .tuple #[.agg #[.int .i64 (i : Nat), .int .i64 s0, .string X, .bool lb], .bool true]) (results_cell_row2 rfl _ _ R 29 _ (0, 0) _ rfl rfl RR15 Try.underlying29 rfl (by kernel_rfl)) rfl ⟨rfl, ?_, ?_⟩
    · refine OutA.sent H.out HCc.out HG.out ?_ ?_
      · rw [HCur.out, heap_set_ne hgR, heap_set_ne hgR, heap_set_ne hgR, heap_set_ne hgR, heap_set_ne hgF]
        exact FG.out
      · have hbR : b ≠ R := fun e => by have := HRR.out; omega
        have hbF : b ≠ F := fun e => by omega
        rw [heap_set_ne hbR, heap_set_ne hbR, heap_set_ne hbR, heap_set_ne hbR, heap_set_ne hbF]
        exact RB.out
    · have hinR : ∀ k : Nat, k = R → k < w.heap.size → k = g := fun k e h => by have := HRR.out; omega
      have hO := (((((O9.out.setCell (p := ⟨F, 0, none⟩) (hin F rfl) (.int .i64 (i : Nat))).setCell (p := ⟨R, 0, none⟩) (hinR R rfl) (.int .i64 (i : Nat))).setCell (p := ⟨R, 1, none⟩) (hinR R rfl) (.int .i64 s0)).setCell (p := ⟨R, 2, none⟩) (hinR R rfl) (.string X)).setCell (p := ⟨R, 3, none⟩) (hinR R rfl) (.bool lb))
      exact hO.mono (fun k _ e => .inr (by rw [e]; rfl))
theorem Send_any (b : Nat) (W S : Int) (cs : List Cl) (v : Value) (pick : Int) (w : World) (h : OutA b W S cs v w) (hok : ∀ c ∈ cs, c.Ok) (hW : 1 ≤ W) (hW2 : W ≤ 9223372036854775807) (hS : 1 ≤ S) (hS2 : S ≤ 9223372036854775807) (h64 : cs.length ≤ 64) (hp2 : pick ≤ 9223372036854775807) :
    Calls Try.prog 8 #[ptr b, .int .i64 pick] w (SendPost b W S cs v pick w) := by
  unfold SendPost
  cases hi : chosen W cs pick with
  | none => exact send_no b W S cs v pick w h hok hW hW2 h64 (chosen_none hi)
  | some i =>
    obtain ⟨c, hc, hm⟩ := chosen_some hi
    have hi2 : (readyTo W cs cs.length)[(max pick 0).toNat % (readyTo W cs cs.length).length]? = some i := by
      unfold chosen at hi
      simp only at hi
      split at hi
      · cases hi
      · exact hi
    exact (send_yes b W S cs v pick w i c h hok hW hW2 hS hS2 h64 hp2 hc hm hi2).mono (fun r w' h => ⟨c, hc, h⟩)
end MX
end Go.Proofs.Ytdkfoakmjeealaa
