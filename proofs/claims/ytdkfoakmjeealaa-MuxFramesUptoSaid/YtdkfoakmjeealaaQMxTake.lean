/- Layer 16: a receiver's Take. -/
import Derived.Test.YtdkfoakmjeealaaQMxInB
import Derived.Test.YtdkfoakmjeealaaQQs
set_option linter.all false
set_option maxRecDepth 100000
set_option maxHeartbeats 25600000
namespace Go.Proofs.Ytdkfoakmjeealaa
open Go.RowKit Go.Lib Go.BigFrame
namespace MX
open OM FP

/-- What a Take leaves where it takes. -/
def InAft (b : Nat) (ps : List (Rc × Value)) (ds : List Int) (v d : Value) (f : Fr) (r0 : Rc) (w w' : World) : Prop :=
  ∃ p t' d', ps[f.call.toNat]? = some p ∧ p.1 = r0 ∧ InA b (ps.set f.call.toNat (onR r0 f, t')) (if f.last then ds ++ [f.call] else ds) v d' w' ∧ Out (mi b ps v d) w w' ∧ ∀ k, mi b (ps.set f.call.toNat (onR r0 f, t')) v d' k → mi b ps v d k ∨ w.heap.size ≤ k
def TakePost (b : Nat) (ps : List (Rc × Value)) (ds : List Int) (v d : Value) (f : Fr) (w : World) (r : Ending) (w' : World) : Prop :=
  match takes (ps.map Prod.fst) f with
  | none => r = .returned (.tuple #[.int .i64 0, .int .i64 160]) ∧ Below w.heap.size w w'
  | some r0 => r = .returned (.tuple #[.int .i64 (r0.text.length + f.text.length : Nat), .int .i64 0]) ∧ InAft b ps ds v d f r0 w w'
theorem frV_of (f : Fr) {X : ByteArray} (h : ⟨f.text.toArray⟩ = X) : frV f = .agg #[.int .i64 f.call, .int .i64 f.pos, .string X, .bool f.last] := by
  unfold frV txt
  rw [h]
set_option maxRecDepth 100000 in
set_option maxHeartbeats 6400000 in
theorem take_out (b : Nat) (ps : List (Rc × Value)) (ds : List Int) (v d : Value) (f : Fr) (w : World) (h : InA b ps ds v d w) (hz : f.call < 0 ∨ (ps.length : Int) ≤ f.call) :
    Calls Try.prog 17 #[ptr b, frV f] w fun r w' => r = .returned (.tuple #[.int .i64 0, .int .i64 160]) ∧ Below w.heap.size w w' := by
  obtain ⟨X, hX⟩ : ∃ X : ByteArray, ⟨f.text.toArray⟩ = X := ⟨_, rfl⟩
  rw [frV_of f hX]
  obtain ⟨cl, pos, tx, last⟩ := f
  simp only at hz hX ⊢
  obtain ⟨wA, hwA⟩ : ∃ wA, w.alloc (.cells #[.int .i64 cl, .int .i64 pos, .string X, .bool last] 29) = wA := ⟨_, rfl⟩
  have hbA : Below w.heap.size w wA := hwA ▸ (Below.refl _ _).alloc (Nat.le_refl _) _
  have hrA : wA.heap[w.heap.size]? = some (.cells #[.int .i64 cl, .int .i64 pos, .string X, .bool last] 29 (0, 0)) := hwA ▸ heap_alloc_new w _
  obtain ⟨R, hR⟩ : ∃ R, w.heap.size = R := ⟨_, rfl⟩
  rw [hR] at hrA
  have HBA := Lib.hid hbA
  have x0 := (row_cell (j := 0) hrA).trans rfl
  have DN := Lib.hid (reg_of (w := wA) (fun W1 hW1 => (callC_no b ps ds v d cl W1 ((h.below hbA).below hW1) hz).mono (fun r w' h => ⟨h.1, h.2 ▸ Below.refl _ _⟩)))
  clear h hz hbA hrA hX
  go_enter Try.func17, Try.ntmps17
  repeat (first | go_skip | go_guarded | go_step | go_upon)
  have r0 := cell_regrown x0
  with_reducible refine wp_region_quiet_below (by kernel_rfl) (by kernel_rfl) ?_
  repeat (go_big_quiet_step (first | (go_at_call 35; exact DN.out _ _)))
  refine wpQuiet_nil ?_
  intro _ hw'
  obtain ⟨⟨dq, osq⟩, hw''⟩ := hw'
  subst hw''
  have W5 : Hid (Below wA.heap.size wA (Go.Sort.grow (redrawn wA dq) osq)) := Lib.hid (below_regrown wA dq osq)
  generalize Go.Sort.grow (redrawn wA dq) osq = w5 at W5 ⊢
  have B5 := Lib.hid (Below.trans HBA.out (W5.out.mono HBA.out.size))
  clear r0
  repeat (first | go_skip | go_guarded | go_step | go_upon)
  with_reducible refine wp_region_quiet_below (by kernel_rfl) (by kernel_rfl) ?_
  repeat (go_big_quiet_step (fail))
  refine wpQuiet_nil ?_
  intro _ hw'
  obtain ⟨⟨dq2, osq2⟩, hw''⟩ := hw'
  subst hw''
  have W6 : Hid (Below w5.heap.size w5 (Go.Sort.grow (redrawn w5 dq2) osq2)) := Lib.hid (below_regrown w5 dq2 osq2)
  generalize Go.Sort.grow (redrawn w5 dq2) osq2 = w6 at W6 ⊢
  have B6 := Lib.hid (Below.trans B5.out (W6.out.mono B5.out.size))
  repeat (first | go_skip | go_guarded | go_step | go_upon)
  go_ret2
  exact ⟨rfl, B6.out⟩
set_option maxRecDepth 100000 in
set_option maxHeartbeats 12800000 in
theorem take_no (b : Nat) (ps : List (Rc × Value)) (ds : List Int) (v d : Value) (f : Fr) (i : Nat) (p : Rc × Value) (w : World) (h : InA b ps ds v d w) (hok : ∀ p ∈ ps, p.1.text.length ≤ 65536) (hcl : f.call = i) (hi : ps[i]? = some p) (hm : f.text.length ≤ 9223372036854775807)
    (hno : p.1.done = true ∨ (p.1.done = false ∧ f.pos ≠ p.1.text.length) ∨ (p.1.done = false ∧ f.pos = p.1.text.length ∧ 65536 - p.1.text.length < f.text.length)) :
    Calls Try.prog 17 #[ptr b, frV f] w fun r w' => r = .returned (.tuple #[.int .i64 0, .int .i64 160]) ∧ Below w.heap.size w w' := by
  obtain ⟨X, hX⟩ : ∃ X : ByteArray, ⟨f.text.toArray⟩ = X := ⟨_, rfl⟩
  rw [frV_of f hX]
  have hXz : X.size = f.text.length := by rw [← hX, Lib.size_eq]
  obtain ⟨cl, pos, tx, last⟩ := f
  simp only at hcl hX hXz hno ⊢
  subst hcl
  obtain ⟨x, hx⟩ : ∃ x, X.size = x := ⟨_, rfl⟩
  obtain ⟨g, k, cur, rfl, hr, ht, hne, q0, q1, q2⟩ := h.at hi
  obtain ⟨wA, hwA⟩ : ∃ wA, w.alloc (.cells #[.int .i64 (i : Nat), .int .i64 pos, .string X, .bool last] 29) = wA := ⟨_, rfl⟩
  have hbA : Below w.heap.size w wA := hwA ▸ (Below.refl _ _).alloc (Nat.le_refl _) _
  have hrA : wA.heap[w.heap.size]? = some (.cells #[.int .i64 (i : Nat), .int .i64 pos, .string X, .bool last] 29 (0, 0)) := hwA ▸ heap_alloc_new w _
  obtain ⟨R, hR⟩ : ∃ R, w.heap.size = R := ⟨_, rfl⟩
  rw [hR] at hrA
  have HRR := Lib.hid hR
  have HBA := Lib.hid hbA
  have HRA := Lib.hid hrA
  have hpl := hok p (List.mem_of_getElem? hi)
  have x0 := (row_cell (j := 0) hrA).trans rfl
  have DA := Lib.hid (reg_of (w := wA) (fun W1 hW1 => (callC_at b ps ds d g k i W1 ((h.below hbA).below hW1) (List.getElem?_eq_some_iff.1 hi).1).mono (fun r w' h => ⟨h.1, h.2 ▸ Below.refl _ _⟩)))
  have H := Lib.hid h
  have HG := Lib.hid hr
  have Q0 := Lib.hid q0
  have Q1 := Lib.hid q1
  have Q2 := Lib.hid q2
  have hgl := (Array.getElem?_eq_some_iff.1 hr).1
  have hbl := (Array.getElem?_eq_some_iff.1 h.row).1
  have HX := Lib.hid hX
  have HI := Lib.hid hi
  obtain ⟨l, hl⟩ : ∃ l, p.1.text.length = l := ⟨_, rfl⟩
  have HLl := Lib.hid hl
  simp only at hm
  rw [hx] at hXz
  rw [← hXz] at hno hm
  rw [hl] at hno hpl Q0
  have hxz : (x : Int) ≤ 9223372036854775807 := by omega
  have hlz : (l : Int) ≤ 65536 := by omega
  rcases hno with hno | ⟨hno, hno2⟩ | ⟨hno, hno2, hno3⟩
  · rw [hno] at Q1
    clear h hbA hrA hX hok hi hr ht q0 q1 q2 hpl hl hno hm
    go_enter Try.func17, Try.ntmps17
    repeat (first | go_skip | go_guarded | go_step | go_upon)
    have r0 := cell_regrown x0
    with_reducible refine wp_region_quiet_below (by kernel_rfl) (by kernel_rfl) ?_
    repeat (go_big_quiet_step (first | (go_at_call 35; exact DA.out _ _)))
    refine wpQuiet_nil ?_
    intro _ hw'
    obtain ⟨⟨dq, osq⟩, hw''⟩ := hw'
    subst hw''
    have W5 : Hid (Below wA.heap.size wA (Go.Sort.grow (redrawn wA dq) osq)) := Lib.hid (below_regrown wA dq osq)
    generalize Go.Sort.grow (redrawn wA dq) osq = w5 at W5 ⊢
    have B5 := Lib.hid (Below.trans HBA.out (W5.out.mono HBA.out.size))
    clear r0
    repeat (first | go_skip | go_guarded | go_step | go_upon)
    have RG5 := (B5.out.block g hgl).trans HG.out
    have RA5 := (W5.out.block R (Array.getElem?_eq_some_iff.1 HRA.out).1).trans HRA.out
    have y0 := cell_regrown ((row_cell (j := i * 3) RG5).trans Q0.out)
    have y1 := cell_regrown ((row_cell (j := i * 3 + 1) RG5).trans Q1.out)
    have a1 := cell_regrown ((row_cell (j := 1) RA5).trans rfl)
    have a2 := cell_regrown ((row_cell (j := 2) RA5).trans rfl)
    with_reducible refine wp_region_quiet_below (by kernel_rfl) (by kernel_rfl) ?_
    repeat (go_big_quiet_step (fail))
    refine wpQuiet_nil ?_
    intro _ hw'
    obtain ⟨⟨dq2, osq2⟩, hw''⟩ := hw'
    subst hw''
    have W6 : Hid (Below w5.heap.size w5 (Go.Sort.grow (redrawn w5 dq2) osq2)) := Lib.hid (below_regrown w5 dq2 osq2)
    generalize Go.Sort.grow (redrawn w5 dq2) osq2 = w6 at W6 ⊢
    have B6 := Lib.hid (Below.trans B5.out (W6.out.mono B5.out.size))
    repeat (first | go_skip | go_guarded | go_step | go_upon)
    go_ret2
    exact ⟨rfl, B6.out⟩
  · rw [hno] at Q1
    have hn1 : (pos == (l : Int)) = false := by simpa using hno2
    have hn1b : (pos != (l : Int)) = true := by simpa using hno2
    clear h hbA hrA hX hok hi hr ht q0 q1 q2 hpl hl hno hm
    go_enter Try.func17, Try.ntmps17
    repeat (first | go_skip | go_guarded | go_step | go_upon)
    have r0 := cell_regrown x0
    with_reducible refine wp_region_quiet_below (by kernel_rfl) (by kernel_rfl) ?_
    repeat (go_big_quiet_step (first | (go_at_call 35; exact DA.out _ _)))
    refine wpQuiet_nil ?_
    intro _ hw'
    obtain ⟨⟨dq, osq⟩, hw''⟩ := hw'
    subst hw''
    have W5 : Hid (Below wA.heap.size wA (Go.Sort.grow (redrawn wA dq) osq)) := Lib.hid (below_regrown wA dq osq)
    generalize Go.Sort.grow (redrawn wA dq) osq = w5 at W5 ⊢
    have B5 := Lib.hid (Below.trans HBA.out (W5.out.mono HBA.out.size))
    clear r0
    repeat (first | go_skip | go_guarded | go_step | go_upon)
    have RG5 := (B5.out.block g hgl).trans HG.out
    have RA5 := (W5.out.block R (Array.getElem?_eq_some_iff.1 HRA.out).1).trans HRA.out
    have y0 := cell_regrown ((row_cell (j := i * 3) RG5).trans Q0.out)
    have y1 := cell_regrown ((row_cell (j := i * 3 + 1) RG5).trans Q1.out)
    have a1 := cell_regrown ((row_cell (j := 1) RA5).trans rfl)
    have a2 := cell_regrown ((row_cell (j := 2) RA5).trans rfl)
    with_reducible refine wp_region_quiet_below (by kernel_rfl) (by kernel_rfl) ?_
    repeat (go_big_quiet_step (fail))
    refine wpQuiet_nil ?_
    intro _ hw'
    obtain ⟨⟨dq2, osq2⟩, hw''⟩ := hw'
    subst hw''
    have W6 : Hid (Below w5.heap.size w5 (Go.Sort.grow (redrawn w5 dq2) osq2)) := Lib.hid (below_regrown w5 dq2 osq2)
    generalize Go.Sort.grow (redrawn w5 dq2) osq2 = w6 at W6 ⊢
    have B6 := Lib.hid (Below.trans B5.out (W6.out.mono B5.out.size))
    repeat (first | go_skip | go_guarded | go_step | go_upon)
    go_ret2
    exact ⟨rfl, B6.out⟩
  · rw [hno] at Q1
    subst hno2
    have hn1 : ((l : Int) == (l : Int)) = true := by simp
    have hn2 : (65536 : Int) - l < x := by omega
    clear h hbA hrA hX hok hi hr ht q0 q1 q2 hpl hl hno hm
    go_enter Try.func17, Try.ntmps17
    repeat (first | go_skip | go_guarded | go_step | go_upon)
    have r0 := cell_regrown x0
    with_reducible refine wp_region_quiet_below (by kernel_rfl) (by kernel_rfl) ?_
    repeat (go_big_quiet_step (first | (go_at_call 35; exact DA.out _ _)))
    refine wpQuiet_nil ?_
    intro _ hw'
    obtain ⟨⟨dq, osq⟩, hw''⟩ := hw'
    subst hw''
    have W5 : Hid (Below wA.heap.size wA (Go.Sort.grow (redrawn wA dq) osq)) := Lib.hid (below_regrown wA dq osq)
    generalize Go.Sort.grow (redrawn wA dq) osq = w5 at W5 ⊢
    have B5 := Lib.hid (Below.trans HBA.out (W5.out.mono HBA.out.size))
    clear r0
    repeat (first | go_skip | go_guarded | go_step | go_upon)
    have RG5 := (B5.out.block g hgl).trans HG.out
    have RA5 := (W5.out.block R (Array.getElem?_eq_some_iff.1 HRA.out).1).trans HRA.out
    have y0 := cell_regrown ((row_cell (j := i * 3) RG5).trans Q0.out)
    have y1 := cell_regrown ((row_cell (j := i * 3 + 1) RG5).trans Q1.out)
    have a1 := cell_regrown ((row_cell (j := 1) RA5).trans rfl)
    have a2 := cell_regrown ((row_cell (j := 2) RA5).trans rfl)
    with_reducible refine wp_region_quiet_below (by kernel_rfl) (by kernel_rfl) ?_
    repeat (go_big_quiet_step (fail))
    refine wpQuiet_nil ?_
    intro _ hw'
    obtain ⟨⟨dq2, osq2⟩, hw''⟩ := hw'
    subst hw''
    have W6 : Hid (Below w5.heap.size w5 (Go.Sort.grow (redrawn w5 dq2) osq2)) := Lib.hid (below_regrown w5 dq2 osq2)
    generalize Go.Sort.grow (redrawn w5 dq2) osq2 = w6 at W6 ⊢
    have B6 := Lib.hid (Below.trans B5.out (W6.out.mono B5.out.size))
    repeat (first | go_skip | go_guarded | go_step | go_upon)
    go_ret2
    exact ⟨rfl, B6.out⟩
/-- What a receiver is behind a Take. -/
theorem in_aft {b : Nat} {ps : List (Rc × Value)} {ds : List Int} {d d' t' : Value} {f : Fr} {w w' : World} {g k i : Nat} {p : Rc × Value} {cur : Array Value} (h : InA b ps ds (.slice (some ⟨g, 0, none⟩) ps.length k) d w) (hcl : f.call = i) (hi : ps[i]? = some p) (hr : w.heap[g]? = some (.cells cur 95 (0, 0)))
    (hb : w'.heap[b]? = some (.cells #[.slice (some ⟨g, 0, none⟩) ps.length k, d'] 87 (0, 0)))
    (hg : w'.heap[g]? = some (.cells (((cur.setIfInBounds (i * 3) (.int .i64 (p.1.text.length + f.text.length : Nat))).setIfInBounds (i * 3 + 1) (.bool f.last)).setIfInBounds (i * 3 + 2) t') 95 (0, 0)))
    (ht : w'.ownsRow 0 5 1 t' (p.1.text.length + f.text.length) (bytesC (p.1.text ++ f.text)))
    (hd : w'.ownsRow 0 3 1 d' (if f.last then ds ++ [f.call] else ds).length ((if f.last then ds ++ [f.call] else ds).map intV))
    (ho : Out (fun k => k = b ∨ k = g ∨ p.2.ownBlock = some k ∨ d.ownBlock = some k) w w') (hs : w.heap.size ≤ w'.heap.size)
    (ft : t'.ownBlock = p.2.ownBlock ∨ ∃ k, t'.ownBlock = some k ∧ w.heap.size ≤ k) (fd : d'.ownBlock = d.ownBlock ∨ ∃ k, d'.ownBlock = some k ∧ w.heap.size ≤ k) :
    InAft b ps ds (.slice (some ⟨g, 0, none⟩) ps.length k) d f p.1 w w' := by
  have il := (List.getElem?_eq_some_iff.1 hi).1
  have hm := List.mem_of_getElem? hi
  obtain ⟨g', k', cur2, e, hr2, htk, hne, -⟩ := h.at hi
  injection e with e1 _ e3
  injection e1 with e1
  injection e1 with e1 _ _
  subst e1 e3
  rw [hr] at hr2
  injection hr2 with hr2
  injection hr2 with hr2 _ _
  subst hr2
  have hfc : f.call.toNat = i := by omega
  have hA : ((ps.take i).flatMap coC).length = i * 3 := by rw [rows_len coC_len, List.length_take, Nat.min_eq_left (by omega)]
  have hgl := (Array.getElem?_eq_some_iff.1 hr).1
  have hbl := (Array.getElem?_eq_some_iff.1 h.row).1
  have put_ne : ∀ {j : Nat} {q : Rc × Value}, j ≠ i → (ps.set i (onR p.1 f, t'))[j]? = some q → ps[j]? = some q := fun {j q} hj hq => by
    rw [List.getElem?_set_ne (Ne.symm hj)] at hq
    exact hq
  have put_eq : ∀ {q : Rc × Value}, (ps.set i (onR p.1 f, t'))[i]? = some q → q = (onR p.1 f, t') := fun {q} hq => by
    rw [List.getElem?_set_self il] at hq
    injection hq with hq
    exact hq.symm
  have keepO : ∀ {j : Nat} {q : Rc × Value}, j ≠ i → ps[j]? = some q → w'.ownsRow 0 5 1 q.2 q.1.text.length (bytesC q.1.text) := fun {j q} hj hq => by
    have hx := h.tx q (List.mem_of_getElem? hq)
    refine ho.owns hx (fun k0 hk hN => ?_)
    rcases hN with e | e | e | e
    · exact own_ne hx h.row (by decide) (e ▸ hk)
    · exact own_ne hx hr (by decide) (e ▸ hk)
    · exact h.apart i j p q (Ne.symm hj) hi hq k0 e hk
    · obtain ⟨c1, f1, h1⟩ := owns_kind h.don k0 e
      exact own_ne hx h1 (by decide) hk
  refine ⟨p, t', d', by rw [hfc]; exact hi, rfl, ⟨hb, ?_, hd, fun q hq => ?_, fun a c q q2 hac hq hq2 k0 h1 h2 => ?_⟩, ho.mono (fun k0 _ hk => ?_), fun k0 hk => ?_⟩
  · rw [hfc, List.length_set]
    refine own_turn h.own hr hg (by simp) (by rw [rows_len coC_len, rows_len coC_len, List.length_set]) ?_
    rw [Array.toList_setIfInBounds, Array.toList_setIfInBounds, Array.toList_setIfInBounds, List.take_set, List.take_set, List.take_set, htk]
    have s0 : ∀ (A r B : List Value) (n : Nat) (u : Value), A.length = n → 0 < r.length → (A ++ r ++ B).set n u = A ++ r.set 0 u ++ B := fun A r B n u hA hj => set_mid (j := 0) hA hj u
    rw [rows_mid hi, rows_put _ il, s0 _ _ _ _ _ hA (by show 0 < 3; decide), set_mid hA (by show 1 < 3; decide), set_mid hA (by show 2 < 3; decide)]
    unfold coC onR
    simp only [List.set_cons_zero, List.set_cons_succ, List.length_append]
  · rw [hfc] at hq
    obtain ⟨j, hj⟩ := List.getElem?_of_mem hq
    by_cases hji : j = i
    · subst hji
      rw [put_eq hj]
      show w'.ownsRow 0 5 1 t' (p.1.text ++ f.text).length _
      rw [List.length_append]
      exact ht
    · exact keepO hji (put_ne hji hj)
  · rw [hfc] at hq hq2
    have old : ∀ {j : Nat} {q3 : Rc × Value}, j ≠ i → ps[j]? = some q3 → ∀ k0, q3.2.ownBlock = some k0 → t'.ownBlock ≠ some k0 := fun {j q3} hj hq3 k0 hk e => by
      rcases ft with h3 | ⟨k3, h3, h4⟩
      · rw [h3] at e
        exact h.apart i j p q3 (Ne.symm hj) hi hq3 k0 e hk
      · rw [h3] at e
        injection e with e
        have := ((h.tx q3 (List.mem_of_getElem? hq3)).lt k0 hk).2
        omega
    by_cases ha : a = i
    · subst ha
      rw [put_eq hq] at h1
      exact old (Ne.symm hac) (put_ne (Ne.symm hac) hq2) k0 h2 h1
    · by_cases hc : c = i
      · subst hc
        rw [put_eq hq2] at h2
        exact old ha (put_ne ha hq) k0 h1 h2
      · exact h.apart a c q q2 hac (put_ne ha hq) (put_ne hc hq2) k0 h1 h2
  · rcases hk with e | e | e | e
    · exact .inl e
    · exact .inr (.inl (by rw [e]; rfl))
    · exact .inr (.inr (.inr ⟨p, hm, e⟩))
    · exact .inr (.inr (.inl e))
  · rcases hk with e | e | e | ⟨q, hq, e⟩
    · exact .inl (.inl e)
    · exact .inl (.inr (.inl e))
    · rcases fd with h3 | ⟨k3, h3, h4⟩
      · exact .inl (.inr (.inr (.inl (by rw [← h3]; exact e))))
      · rw [h3] at e
        injection e with e
        exact .inr (by omega)
    · rw [hfc] at hq
      obtain ⟨j, hj⟩ := List.getElem?_of_mem hq
      by_cases hji : j = i
      · subst hji
        rw [put_eq hj] at e
        rcases ft with h3 | ⟨k3, h3, h4⟩
        · exact .inl (.inr (.inr (.inr ⟨p, hm, by rw [← h3]; exact e⟩)))
        · have e : t'.ownBlock = some k0 := e
          rw [h3] at e
          injection e with e
          exact .inr (by omega)
      · exact .inl (.inr (.inr (.inr ⟨q, List.mem_of_getElem? (put_ne hji hj), e⟩)))
theorem wpList_app_eq {P : Program} {w : World} {ops : Array Oper} {rest : List Oper} {o : Oper} {a : Act} {Q : Exit → Act → World → Prop} (hgd : o.guard = none) (s x : Operand) (t t2 : TypeId)
    (ho : o.op = .call { callee := .builtin .append, args := #[s, x], argTypes := #[t, t2] }) (u v : Value) (hs : a.eval s = u) (hx : a.eval x = v) {v' : Value} {w' : World}
    (hr : (Builtin.append_ #[t, t2] o.type #[u, v]).run P w = .ok v' w') (h : wpList P ops Q rest (a.put o.dst v') w') : wpList P ops Q (o :: rest) a w := by
  refine wpList_plain hgd fun K hK => ?_
  unfold Oper.wp
  simp [execOp, ho, resolve, invoke, builtin, hs, hx, hr, Result.andThen]
  exact hK _ _ h
theorem wp_app_eq {P : Program} {w : World} {o : Oper} {a : Act} {K : Act → World → Prop} {Q : Exit → Act → World → Prop} (s x : Operand) (t t2 : TypeId)
    (ho : o.op = .call { callee := .builtin .append, args := #[s, x], argTypes := #[t, t2] }) (u v : Value) (hs : a.eval s = u) (hx : a.eval x = v) {v' : Value} {w' : World}
    (hr : (Builtin.append_ #[t, t2] o.type #[u, v]).run P w = .ok v' w') (h : K (a.put o.dst v') w') : o.wp P a w K Q := by
  unfold Oper.wp
  simp [execOp, ho, resolve, invoke, builtin, hs, hx, hr, Result.andThen]
  exact h
theorem infoI' : (Try.prog.info? 3).map (fun i => (i.zero, i.size, i.bytes)) = some (some (.int .i64 0), 1, 8) := by kernel_rfl
theorem info8 : (Try.prog.info? 5).map (fun i => (i.zero, i.size, i.bytes)) = some (some (.int .u8 0), 1, 1) := by kernel_rfl
set_option maxRecDepth 100000 in
set_option maxHeartbeats 12800000 in
theorem take_yes (b : Nat) (ps : List (Rc × Value)) (ds : List Int) (v d : Value) (f : Fr) (i : Nat) (p : Rc × Value) (w : World) (h : InA b ps ds v d w) (hok : ∀ p ∈ ps, p.1.text.length ≤ 65536) (hcl : f.call = i) (hi : ps[i]? = some p) (hno : p.1.done = false) (hpos : f.pos = p.1.text.length) (hfit : f.text.length ≤ 65536 - p.1.text.length) (hdl : ds.length ≤ 1000000) :
    Calls Try.prog 17 #[ptr b, frV f] w fun r w' => r = .returned (.tuple #[.int .i64 (p.1.text.length + f.text.length : Nat), .int .i64 0]) ∧ InAft b ps ds v d f p.1 w w' := by
  obtain ⟨X, hX⟩ : ∃ X : ByteArray, ⟨f.text.toArray⟩ = X := ⟨_, rfl⟩
  rw [frV_of f hX]
  have hXz : X.size = f.text.length := by rw [← hX, Lib.size_eq]
  obtain ⟨cl, pos, tx, last⟩ := f
  simp only at hcl hX hXz hpos hfit ⊢
  subst hcl
  obtain ⟨x, hx⟩ : ∃ x, X.size = x := ⟨_, rfl⟩
  obtain ⟨g, k, cur, rfl, hr, ht, hne, q0, q1, q2⟩ := h.at hi
  obtain ⟨wA, hwA⟩ : ∃ wA, w.alloc (.cells #[.int .i64 (i : Nat), .int .i64 pos, .string X, .bool last] 29) = wA := ⟨_, rfl⟩
  have hbA : Below w.heap.size w wA := hwA ▸ (Below.refl _ _).alloc (Nat.le_refl _) _
  have hrA : wA.heap[w.heap.size]? = some (.cells #[.int .i64 (i : Nat), .int .i64 pos, .string X, .bool last] 29 (0, 0)) := hwA ▸ heap_alloc_new w _
  obtain ⟨R, hR⟩ : ∃ R, w.heap.size = R := ⟨_, rfl⟩
  rw [hR] at hrA
  have HRR := Lib.hid hR
  have HBA := Lib.hid hbA
  have HRA := Lib.hid hrA
  have hpl := hok p (List.mem_of_getElem? hi)
  have x0 := (row_cell (j := 0) hrA).trans rfl
  have DA := Lib.hid (reg_of (w := wA) (fun W1 hW1 => (callC_at b ps ds d g k i W1 ((h.below hbA).below hW1) (List.getElem?_eq_some_iff.1 hi).1).mono (fun r w' h => ⟨h.1, h.2 ▸ Below.refl _ _⟩)))
  have H := Lib.hid h
  have HG := Lib.hid hr
  have Q0 := Lib.hid q0
  have Q1 := Lib.hid q1
  have Q2 := Lib.hid q2
  have hgl := (Array.getElem?_eq_some_iff.1 hr).1
  have hbl := (Array.getElem?_eq_some_iff.1 h.row).1
  have HX := Lib.hid hX
  have HI := Lib.hid hi
  obtain ⟨l, hl⟩ : ∃ l, p.1.text.length = l := ⟨_, rfl⟩
  have HLl := Lib.hid hl
  rw [hx] at hXz
  rw [← hXz] at hfit
  rw [hl] at hpos hfit hpl Q0
  subst hpos
  have hxz : (x : Int) ≤ 65536 := by omega
  have hfz : (x : Int) ≤ 65536 - l := by omega
  have hn1 : ((l : Int) == (l : Int)) = true := by simp
  have hlz : (l : Int) ≤ 65536 := by omega
  rw [hno] at Q1
  rw [← hXz]
  have HTx := Lib.hid (h.tx p (List.mem_of_getElem? hi))
  have HXz := Lib.hid hXz
  clear hXz
  clear h hbA hrA hX hok hi hr ht q0 q1 q2 hpl hl hno
  go_enter Try.func17, Try.ntmps17
  repeat (first | go_skip | go_guarded | go_step | go_upon)
  have r0 := cell_regrown x0
  with_reducible refine wp_region_quiet_below (by kernel_rfl) (by kernel_rfl) ?_
  repeat (go_big_quiet_step (first | (go_at_call 35; exact DA.out _ _)))
  refine wpQuiet_nil ?_
  intro _ hw'
  obtain ⟨⟨dq, osq⟩, hw''⟩ := hw'
  subst hw''
  have W5 : Hid (Below wA.heap.size wA (Go.Sort.grow (redrawn wA dq) osq)) := Lib.hid (below_regrown wA dq osq)
  generalize Go.Sort.grow (redrawn wA dq) osq = w5 at W5 ⊢
  have B5 := Lib.hid (Below.trans HBA.out (W5.out.mono HBA.out.size))
  clear r0
  repeat (first | go_skip | go_guarded | go_step | go_upon)
  have RG5 := (B5.out.block g hgl).trans HG.out
  have RA5 := (W5.out.block R (Array.getElem?_eq_some_iff.1 HRA.out).1).trans HRA.out
  have y0 := cell_regrown ((row_cell (j := i * 3) RG5).trans Q0.out)
  have y1 := cell_regrown ((row_cell (j := i * 3 + 1) RG5).trans Q1.out)
  have a1 := cell_regrown ((row_cell (j := 1) RA5).trans rfl)
  have a2 := cell_regrown ((row_cell (j := 2) RA5).trans rfl)
  with_reducible refine wp_region_quiet_below (by kernel_rfl) (by kernel_rfl) ?_
  repeat (go_big_quiet_step (fail))
  refine wpQuiet_nil ?_
  intro _ hw'
  obtain ⟨⟨dq2, osq2⟩, hw''⟩ := hw'
  subst hw''
  have W6 : Hid (Below w5.heap.size w5 (Go.Sort.grow (redrawn w5 dq2) osq2)) := Lib.hid (below_regrown w5 dq2 osq2)
  generalize Go.Sort.grow (redrawn w5 dq2) osq2 = w6 at W6 ⊢
  have B6 := Lib.hid (Below.trans B5.out (W6.out.mono B5.out.size))
  clear y0 y1 a1 a2
  repeat (first | go_skip | go_guarded | go_step | go_upon)
  have RG6 := Lib.hid ((W6.out.block g (Array.getElem?_eq_some_iff.1 RG5).1).trans RG5)
  have RA6 := Lib.hid ((W6.out.block R (Array.getElem?_eq_some_iff.1 RA5).1).trans RA5)
  have p0 := cell_regrown ((row_cell (j := 0) RA6.out).trans rfl)
  have p1 := cell_regrown ((row_cell (j := 1) RA6.out).trans rfl)
  have p2 := cell_regrown ((row_cell (j := 2) RA6.out).trans rfl)
  have p3 := cell_regrown ((row_cell (j := 3) RA6.out).trans rfl)
  clear RG5 RA5
  with_reducible refine QT.region_tail 4 (by kernel_rfl) (by kernel_rfl) ?_
  simp only [List.take_succ_cons, List.take_zero, List.drop_succ_cons, List.drop_zero]
  repeat (go_big_quiet_step (fail))
  refine wpQuiet_nil ?_
  intro _ hw'
  obtain ⟨⟨dq3, osq3⟩, hw''⟩ := hw'
  subst hw''
  have W7 : Hid (Below w6.heap.size w6 (Go.Sort.grow (redrawn w6 dq3) osq3)) := Lib.hid (below_regrown w6 dq3 osq3)
  generalize Go.Sort.grow (redrawn w6 dq3) osq3 = w7 at W7 ⊢
  have B7 := Lib.hid (Below.trans B6.out (W7.out.mono B6.out.size))
  clear p0 p1 p2 p3
  have RG7 := Lib.hid ((W7.out.block g (Array.getElem?_eq_some_iff.1 RG6.out).1).trans RG6.out)
  have RA7 := Lib.hid ((W7.out.block R (Array.getElem?_eq_some_iff.1 RA6.out).1).trans RA6.out)
  have CP := Lib.hid (pass_any g (i * 3) l false last (i : Nat) (l : Nat) X w7 ((row_cell (j := i * 3) RG7.out).trans Q0.out) ((row_cell (j := i * 3 + 1) RG7.out).trans Q1.out) (row_frz RG7.out (i * 3)) (row_frz RG7.out (i * 3 + 1)) (Array.getElem?_eq_some_iff.1 RG7.out).1 (by omega))
  repeat (first | (go_at_call 36; fail) | go_skip | go_guarded | go_step | go_upon)
  refine CP.out.mono ?_
  rintro r w8 ⟨rfl, w9, hb9, rfl⟩
  simp only []
  have hgR : g ≠ R := fun e => by have := HRR.out; omega
  have hRg := Ne.symm hgR
  have hbR : b ≠ R := fun e => by have := HRR.out; omega
  have hbg := Ne.symm hne
  have B9 := B7.out.trans (hb9.mono B7.out.size)
  have RG9 := row_set (j := i * 3 + 1) (row_set (j := i * 3) ((hb9.block g (Array.getElem?_eq_some_iff.1 RG7.out).1).trans RG7.out) (.int .i64 (l + X.size : Nat))) (.bool last)
  have RA9 := (heap_set_ne (w := w9.setCell ⟨g, i * 3, none⟩ (.int .i64 (l + X.size : Nat))) (j := i * 3 + 1) (v := .bool last) hRg).trans ((heap_set_ne (w := w9) (j := i * 3) (v := .int .i64 (l + X.size : Nat)) hRg).trans ((hb9.block R (Array.getElem?_eq_some_iff.1 RA7.out).1).trans RA7.out))
  have RB9 := (heap_set_ne (w := w9.setCell ⟨g, i * 3, none⟩ (.int .i64 (l + X.size : Nat))) (j := i * 3 + 1) (v := .bool last) hbg).trans ((heap_set_ne (w := w9) (j := i * 3) (v := .int .i64 (l + X.size : Nat)) hbg).trans ((B9.block b hbl).trans H.out.row))
  have O9 : Out (fun k => k = g) w ((w9.setCell ⟨g, i * 3, none⟩ (.int .i64 (l + X.size : Nat))).setCell ⟨g, i * 3 + 1, none⟩ (.bool last)) := (((Out.refl (fun k => k = g) w).then (Out.of_below B9) (fun k h1 h2 => by omega)).setCell (p := ⟨g, i * 3, none⟩) (fun _ => rfl) _).setCell (p := ⟨g, i * 3 + 1, none⟩) (fun _ => rfl) _
  rw [hx] at RG9 RA9 RB9 O9 ⊢
  clear hb9 CP B9 RG6 RA6 RG7 RA7 W5 W6 W7 B5 B6 B7
  generalize (w9.setCell ⟨g, i * 3, none⟩ (.int .i64 (l + x : Nat))).setCell ⟨g, i * 3 + 1, none⟩ (.bool last) = w10 at RG9 RA9 RB9 O9 ⊢
  obtain ⟨a0, c0, e0, -⟩ := owns_view HTx.out
  rw [HLl.out] at e0
  have q2' : ((cur.setIfInBounds (i * 3) (.int .i64 (l + x : Nat))).setIfInBounds (i * 3 + 1) (.bool last))[i * 3 + 2]? = some (.slice a0 l c0) := by
    rw [Array.getElem?_setIfInBounds_ne (by omega), Array.getElem?_setIfInBounds_ne (by omega), Q2.out, e0]
  have z2 := (row_cell (j := i * 3 + 2) RG9).trans q2'
  have y2 := (row_cell (j := 2) RA9).trans rfl
  have RG10 := Lib.hid RG9
  have RA10 := Lib.hid RA9
  have RB10 := Lib.hid RB9
  have O10 := Lib.hid O9
  clear RG9 RA9 RB9 O9
  repeat (first | go_skip | go_guarded | go_step | go_upon)
  obtain ⟨cur1, hc1⟩ : ∃ cur1 : Array Value, (cur.setIfInBounds (i * 3) (.int .i64 (l + x : Nat))).setIfInBounds (i * 3 + 1) (.bool last) = cur1 := ⟨_, rfl⟩
  rw [hc1] at RG10 q2'
  have HC1 := Lib.hid hc1
  have hS : ∀ W : World, W.heap[g]? = w10.heap[g]? → W.heap[R]? = w10.heap[R]? → W.heap[g]? = some (.cells cur1 95 (0, 0)) ∧ W.heap[R]? = some (.cells #[.int .i64 (i : Nat), .int .i64 (l : Nat), .string X, .bool last] 29 (0, 0)) := fun W h1 h2 => ⟨h1.trans RG10.out, h2.trans RA10.out⟩
  clear z2 y2 hc1
  refine wp_region_noPanic ?_
  with_reducible refine QT.region_mix (S := fun W => W.heap[g]? = some (.cells cur1 95 (0, 0)) ∧ W.heap[R]? = some (.cells #[.int .i64 (i : Nat), .int .i64 (l : Nat), .string X, .bool last] 29 (0, 0))) [(true, 0), (true, 1), (true, 2), (true, 3), (true, 4), (true, 5), (true, 6), (false, 7)] 8 (by kernel_rfl) (by kernel_rfl) ?_ ?_ ?_
  · exact fun _ _ _ _ _ h => h
  · exact hS w10.drew rfl rfl
  intro _
  simp only [QT.pickM, List.filterMap_cons, List.filterMap_nil, List.getElem?_cons_succ, List.getElem?_cons_zero, Option.map_some, List.drop_succ_cons, List.drop_zero]
  iterate 7 (refine QT.wpMix_take _ (by rfl) (by intro w' hSw; have z2 := (row_cell (j := i * 3 + 2) hSw.1).trans q2'; have y2 := (row_cell (j := 2) hSw.2).trans rfl; go_simp; first | done | rfl) ?_; try simp only [Act.put, List.setIfInBounds_toArray, List.set_cons_zero, List.set_cons_succ])
  obtain ⟨w11, hw11⟩ : ∃ w11, w10.drew = w11 := ⟨_, rfl⟩
  have W11 : Hid (Below w10.heap.size w10 w11) := Lib.hid (hw11 ▸ (Below.refl _ _).drew)
  rw [hw11]
  have O11 := Lib.hid (O10.out.thenBelow W11.out)
  have RG11 := Lib.hid ((W11.out.block g (Array.getElem?_eq_some_iff.1 RG10.out).1).trans RG10.out)
  have RA11 := Lib.hid ((W11.out.block R (Array.getElem?_eq_some_iff.1 RA10.out).1).trans RA10.out)
  have RB11 := Lib.hid ((W11.out.block b (Array.getElem?_eq_some_iff.1 RB10.out).1).trans RB10.out)
  have ho11 := O11.out.owns HTx.out (fun k0 hk e => own_ne HTx.out HG.out (by decide) (e ▸ hk))
  rw [e0, HLl.out] at ho11
  obtain ⟨i8, hi8, hy0, hy1, hy2⟩ := info_parts info8
  obtain ⟨t', w12, hrun, hot, hgt, hat⟩ := run_app_str (P := Try.prog) w11 0 93 9 93 5 i8 Try.underlying93 Try.underlying9 hi8 hy0 hy1 hy2 (.slice a0 l c0) l (bytesC p.1.text) ho11 X (by omega) (Nat.zero_le _)
  obtain ⟨a1, c1, et, -⟩ := owns_view hot
  subst et
  have tg : (Value.slice a0 l c0).ownBlock ≠ some g := own_ne ho11 RG11.out (by decide)
  have tR : (Value.slice a0 l c0).ownBlock ≠ some R := own_ne ho11 RA11.out (by decide)
  have tb : (Value.slice a0 l c0).ownBlock ≠ some b := own_ne ho11 RB11.out (by decide)
  have RG12 := (hgt.block g (Array.getElem?_eq_some_iff.1 RG11.out).1 (fun e => tg e.symm)).trans RG11.out
  have RA12 := (hgt.block R (Array.getElem?_eq_some_iff.1 RA11.out).1 (fun e => tR e.symm)).trans RA11.out
  have RB12 := (hgt.block b (Array.getElem?_eq_some_iff.1 RB11.out).1 (fun e => tb e.symm)).trans RB11.out
  intro K' hK
  rw [if_pos (by rfl)]
  refine wp_app_eq _ _ _ _ rfl _ _ rfl rfl hrun ?_
  refine hK.out _ _ ⟨RG12, RA12⟩ ?_
  clear hK K' hrun hS
  have z3 := (row_cell (j := i * 3 + 2) RG12).trans q2'
  have f3 := row_frz RG12 (i * 3 + 2)
  have O12 := Lib.hid (hgt)
  have RG12 := Lib.hid RG12
  have RA12 := Lib.hid RA12
  have RB12 := Lib.hid RB12
  have HOT := Lib.hid hot
  have HAT := Lib.hid hat
  clear hot hgt hat ho11
  try simp only [Act.put, List.setIfInBounds_toArray, List.set_cons_zero, List.set_cons_succ]
  refine QT.wpMix_nil ?_
  repeat (first | go_skip | go_guarded | go_step | go_upon)
  refine NoPanic.normal ?_
  have RG13 := row_set (j := i * 3 + 2) RG12.out (.slice a1 (l + x) c1)
  have RA13 := (heap_set_ne (w := w12) (j := i * 3 + 2) (v := .slice a1 (l + x) c1) hRg).trans RA12.out
  have RB13 := (heap_set_ne (w := w12) (j := i * 3 + 2) (v := .slice a1 (l + x) c1) hbg).trans RB12.out
  have hot := HOT.out
  rw [hx] at hot
  have HT13 : Hid ((w12.setCell ⟨g, i * 3 + 2, none⟩ (.slice a1 (l + x) c1)).ownsRow 0 5 1 (.slice a1 (l + x) c1) (l + x) (bytesC (p.1.text ++ tx))) := Lib.hid (by
    have e : bytesC p.1.text ++ strCells X = bytesC (p.1.text ++ tx) := by
      rw [← HX.out, str_bytes]
      unfold bytesC
      rw [List.map_append]
    rw [e] at hot
    exact own_same hot (fun k0 hk => heap_set_ne (fun e2 => own_ne hot RG12.out (by decide) (e2 ▸ hk))))
  have hnc : g ≠ b ∧ R ≠ b := ⟨hne, Ne.symm hbR⟩
  have O13 : Hid (Out (fun k0 => k0 = g ∨ p.2.ownBlock = some k0) w (w12.setCell ⟨g, i * 3 + 2, none⟩ (.slice a1 (l + x) c1))) := Lib.hid ((((O11.out.mono (fun k0 _ e => .inl e) : Out (fun k0 => k0 = g ∨ p.2.ownBlock = some k0) w w11)).grown O12.out (fun k0 e _ => .inr (by rw [e0]; exact e))).setCell (p := ⟨g, i * 3 + 2, none⟩) (fun _ => .inl rfl) _)
  have AT13 : Hid ((Value.slice a1 (l + x) c1).ownBlock = p.2.ownBlock ∨ ∃ k0, (Value.slice a1 (l + x) c1).ownBlock = some k0 ∧ w.heap.size ≤ k0) := Lib.hid (by
    have h := HAT.out
    rw [hx] at h
    rcases h with h | h
    · exact .inl (by rw [h, e0])
    · exact .inr ⟨_, h, O11.out.size⟩)
  have c3 : (cur1.setIfInBounds (i * 3 + 2) (.slice a1 (l + x) c1))[i * 3]? = some (.int .i64 (l + x : Nat)) := by
    rw [Array.getElem?_setIfInBounds_ne (by omega), ← HC1.out, Array.getElem?_setIfInBounds_ne (by omega), Array.getElem?_setIfInBounds_self]
    rw [if_pos (Array.getElem?_eq_some_iff.1 Q0.out).1]
  clear hot
  have G13 : Hid ((w12.setCell ⟨g, i * 3 + 2, none⟩ (.slice a1 (l + x) c1)).heap[g]? = some (.cells (((cur.setIfInBounds (i * 3) (.int .i64 (l + x : Nat))).setIfInBounds (i * 3 + 1) (.bool last)).setIfInBounds (i * 3 + 2) (.slice a1 (l + x) c1)) 95 (0, 0))) := Lib.hid (by rw [HC1.out]; exact RG13)
  rw [hx]
  generalize w12.setCell ⟨g, i * 3 + 2, none⟩ (.slice a1 (l + x) c1) = w13 at RG13 RA13 RB13 HT13 O13 G13 ⊢
  have y3 := (row_cell (j := 3) RA13).trans rfl
  have c4 := (row_cell (j := i * 3) RG13).trans c3
  have HRG := Lib.hid RG13
  have HRA := Lib.hid RA13
  have HRB := Lib.hid RB13
  clear RG13 RA13 RB13 z3 f3
  cases last with
  | false =>
    repeat (first | go_skip | go_guarded | go_step | go_upon)
    go_ret2
    refine ⟨by rw [HLl.out]; rfl, in_aft (cur := cur) H.out rfl HI.out HG.out HRB.out (by rw [HLl.out, ← HXz.out]; exact G13.out) (by rw [HLl.out, ← HXz.out]; exact HT13.out) ?_ (O13.out.mono (fun k0 _ e => e.elim (fun e => .inr (.inl e)) (fun e => .inr (.inr (.inl e))))) O13.out.size AT13.out (.inl rfl)⟩
    refine O13.out.owns H.out.don (fun k0 hk hN => ?_)
    rcases hN with e | e
    · exact own_ne H.out.don HG.out (by decide) (e ▸ hk)
    · obtain ⟨cc, ff, h1⟩ := owns_kind HTx.out k0 e
      exact own_ne H.out.don h1 (by decide) hk
  | true =>
    repeat (first | go_skip | go_guarded | go_step | go_upon)
    obtain ⟨iI, hI, hI0, hI1, hI2⟩ := info_parts infoI'
    have hod := O13.out.owns H.out.don (fun k0 hk hN => by
      rcases hN with e | e
      · exact own_ne H.out.don HG.out (by decide) (e ▸ hk)
      · obtain ⟨cc, ff, h1⟩ := owns_kind HTx.out k0 e
        exact own_ne H.out.don h1 (by decide) hk)
    have HOD := Lib.hid hod
    have hS : ∀ W : World, W.heap[b]? = w13.heap[b]? → W.heap[R]? = w13.heap[R]? → W.heap[b]? = some (.cells #[.slice (some ⟨g, 0, none⟩) ps.length k, d] 87 (0, 0)) ∧ W.heap[R]? = some (.cells #[.int .i64 (i : Nat), .int .i64 (l : Nat), .string X, .bool true] 29 (0, 0)) := fun W h1 h2 => ⟨h1.trans HRB.out, h2.trans HRA.out⟩
    have HCC := Lib.hid c3
    clear y3 c4 c3 hod
    refine wp_region_noPanic ?_
    with_reducible refine QT.region_mix (S := fun W => W.heap[b]? = some (.cells #[.slice (some ⟨g, 0, none⟩) ps.length k, d] 87 (0, 0)) ∧ W.heap[R]? = some (.cells #[.int .i64 (i : Nat), .int .i64 (l : Nat), .string X, .bool true] 29 (0, 0))) [(true, 0), (true, 1), (true, 2), (true, 3), (true, 4), (true, 5), (true, 6), (false, 7), (false, 8)] 9 (by kernel_rfl) (by kernel_rfl) ?_ ?_ ?_
    · exact fun _ _ _ _ _ h => h
    · exact hS w13.drew rfl rfl
    intro _
    simp only [QT.pickM, List.filterMap_cons, List.filterMap_nil, List.getElem?_cons_succ, List.getElem?_cons_zero, Option.map_some, List.drop_succ_cons, List.drop_zero]
    iterate 7 (refine QT.wpMix_take _ (by rfl) (by intro w' hSw; have z2 := (row_cell (j := 1) hSw.1).trans rfl; have y2 := (row_cell (j := 0) hSw.2).trans rfl; go_simp; first | done | rfl) ?_; try simp only [Act.put, List.setIfInBounds_toArray, List.set_cons_zero, List.set_cons_succ])
    intro K' hK
    rw [if_pos (by rfl)]
    go_simp
    have b14 : Below w13.heap.size w13 (w13.alloc (.cells #[.int .i64 (i : Nat)] 3)).drew := ((Below.refl _ _).alloc (Nat.le_refl _) _).drew
    have one14 : ∀ (j : Nat) (u : Value), [Value.int .i64 (i : Nat)][j]? = some u → ((w13.alloc (.cells #[.int .i64 (i : Nat)] 3)).drew).cell? ((⟨w13.heap.size, 0, none⟩ : Addr).add j) = some u := OM.one_new w13 (.int .i64 (i : Nat)) 3
    refine hK.out _ _ (hS _ (b14.block b (Array.getElem?_eq_some_iff.1 HRB.out).1) (b14.block R (Array.getElem?_eq_some_iff.1 HRA.out).1)) ?_
    clear hK K'
    try simp only [Act.put, List.setIfInBounds_toArray, List.set_cons_zero, List.set_cons_succ]
    generalize (w13.alloc (.cells #[.int .i64 (i : Nat)] 3)).drew = w14 at b14 one14 ⊢
    have ho14 := owns_below HOD.out b14
    obtain ⟨d', w15, hrun, hod', hgd, -, hatd⟩ := run_append_own_at (P := Try.prog) w14 0 43 43 3 iI (.int .i64 0) 1 8 Try.underlying43 hI hI0 hI1 hI2 rfl (by decide) d ds.length (ds.map intV) ho14 ⟨w13.heap.size, 0, none⟩ 1 1 [.int .i64 (i : Nat)] rfl one14 (fun u hu => by simp at hu; subst hu; rfl) (by unfold maxLen; omega) (by omega) (Nat.zero_le _)
    obtain ⟨ad, cd, ed, -⟩ := owns_view hod'
    subst ed
    intro K' hK
    rw [if_pos (by rfl)]
    refine wp_app_eq _ _ _ _ rfl _ _ rfl rfl hrun ?_
    have db : d.ownBlock ≠ some b := own_ne H.out.don H.out.row (by decide)
    have dR : d.ownBlock ≠ some R := own_ne HOD.out HRA.out (by decide)
    have dg : d.ownBlock ≠ some g := own_ne HOD.out HRG.out (by decide)
    have RB15 := (hgd.block b (Nat.lt_of_lt_of_le (Array.getElem?_eq_some_iff.1 HRB.out).1 b14.size) (fun e => db e.symm)).trans ((b14.block b (Array.getElem?_eq_some_iff.1 HRB.out).1).trans HRB.out)
    have RA15 := (hgd.block R (Nat.lt_of_lt_of_le (Array.getElem?_eq_some_iff.1 HRA.out).1 b14.size) (fun e => dR e.symm)).trans ((b14.block R (Array.getElem?_eq_some_iff.1 HRA.out).1).trans HRA.out)
    have RG15 := (hgd.block g (Nat.lt_of_lt_of_le (Array.getElem?_eq_some_iff.1 HRG.out).1 b14.size) (fun e => dg e.symm)).trans ((b14.block g (Array.getElem?_eq_some_iff.1 HRG.out).1).trans HRG.out)
    have GG15 := (hgd.block g (Nat.lt_of_lt_of_le (Array.getElem?_eq_some_iff.1 HRG.out).1 b14.size) (fun e => dg e.symm)).trans ((b14.block g (Array.getElem?_eq_some_iff.1 HRG.out).1).trans G13.out)
    refine hK.out _ _ ⟨RB15, RA15⟩ ?_
    clear hK K' hrun hS
    try simp only [Act.put, List.setIfInBounds_toArray, List.set_cons_zero, List.set_cons_succ]
    refine QT.wpMix_nil ?_
    have x1 := (row_cell (j := 1) RB15).trans rfl
    have v1 := row_frz RB15 1
    have c5 := (row_cell (j := i * 3) RG15).trans HCC.out
    have HT15 := owns_below HT13.out b14
    have HT15 : Hid (w15.ownsRow 0 5 1 (.slice a1 (l + x) c1) (l + x) (bytesC (p.1.text ++ tx))) := Lib.hid (own_same HT15 (fun k0 hk => hgd.block k0 (HT15.lt k0 hk).2 (fun e => by
      obtain ⟨cc, ff, h1⟩ := owns_kind ho14 k0 e.symm
      exact own_ne HT15 h1 (by decide) hk)))
    have O15 : Hid (Out (fun k0 => (k0 = g ∨ p.2.ownBlock = some k0) ∨ d.ownBlock = some k0) w w15) := Lib.hid (((O13.out.thenBelow b14).mono (fun k0 _ e => .inl e) : Out (fun k0 => (k0 = g ∨ p.2.ownBlock = some k0) ∨ d.ownBlock = some k0) w w14).grown hgd (fun k0 e _ => .inr e))
    have HOD' := Lib.hid hod'
    have HAD : Hid ((Value.slice ad (ds.length + 1) cd).ownBlock = d.ownBlock ∨ ∃ k0, (Value.slice ad (ds.length + 1) cd).ownBlock = some k0 ∧ w.heap.size ≤ k0) := Lib.hid (hatd.imp id (fun e => ⟨_, e, (O13.out.thenBelow b14).size⟩))
    have RB15 := Lib.hid RB15
    have RG15 := Lib.hid RG15
    have GG15 := Lib.hid GG15
    clear hod' hgd hatd RA15 b14 one14 ho14
    repeat (first | go_skip | go_guarded | go_step | go_upon)
    refine NoPanic.normal ?_
    repeat (first | go_skip | go_guarded | go_step | go_upon)
    go_ret2
    have hk : ∀ k0, k0 ≠ b → (w15.setCell ⟨b, 1, none⟩ (.slice ad (ds.length + 1) cd)).heap[k0]? = w15.heap[k0]? := fun k0 h => heap_set_ne h
    refine ⟨by rw [HLl.out]; rfl, in_aft (cur := cur) H.out rfl HI.out HG.out (row_set (j := 1) RB15.out _) (by rw [HLl.out, ← HXz.out]; exact (hk g hne).trans GG15.out) (by rw [HLl.out, ← HXz.out]; exact own_same HT15.out (fun k0 h => hk k0 (fun e => own_ne HT15.out RB15.out (by decide) (e ▸ h)))) ?_ ((O15.out.mono (fun k0 _ e => e.elim (fun e => e.elim (fun e => .inr (.inl e)) (fun e => .inr (.inr (.inl e)))) (fun e => .inr (.inr (.inr e)))) : Out (fun k0 => k0 = b ∨ k0 = g ∨ p.2.ownBlock = some k0 ∨ d.ownBlock = some k0) w w15).setCell (p := ⟨b, 1, none⟩) (fun _ => .inl rfl) _) ?_ AT13.out HAD.out⟩
    · have h := HOD'.out
      have e : (ds ++ [(i : Int)]).length = ds.length + 1 := by rw [List.length_append]; rfl
      have e2 : (ds ++ [(i : Int)]).map intV = ds.map intV ++ [.int .i64 (i : Nat)] := by rw [List.map_append]; rfl
      simp only [if_true]
      rw [e, e2]
      exact own_same h (fun k0 hh => hk k0 (fun e => own_ne h RB15.out (by decide) (e ▸ hh)))
    · rw [World.size_setCell]
      exact O15.out.size
theorem Take_any (b : Nat) (ps : List (Rc × Value)) (ds : List Int) (v d : Value) (f : Fr) (w : World) (h : InA b ps ds v d w) (h64 : ps.length = 64) (hok : ∀ p ∈ ps, p.1.text.length ≤ 65536) (hdl : ds.length ≤ 1000000) (hm : f.text.length ≤ 9223372036854775807) :
    Calls Try.prog 17 #[ptr b, frV f] w (TakePost b ps ds v d f w) := by
  unfold TakePost
  by_cases hz : 0 ≤ f.call ∧ f.call < 64
  · obtain ⟨i, hi⟩ : ∃ i : Nat, f.call = i := ⟨f.call.toNat, by omega⟩
    have hil : i < ps.length := by omega
    have hp : ps[i]? = some ps[i] := List.getElem?_eq_getElem hil
    have ht : takes (ps.map Prod.fst) f = if (ps[i]).1.done = false ∧ f.pos = (ps[i]).1.text.length ∧ f.text.length ≤ 65536 - (ps[i]).1.text.length then some (ps[i]).1 else none := by
      unfold takes
      rw [if_pos hz, hi, Int.toNat_natCast, List.getElem?_map, hp]
      rfl
    rw [ht]
    by_cases hc : (ps[i]).1.done = false ∧ f.pos = (ps[i]).1.text.length ∧ f.text.length ≤ 65536 - (ps[i]).1.text.length
    · rw [if_pos hc]
      exact take_yes b ps ds v d f i _ w h hok hi hp hc.1 hc.2.1 hc.2.2 hdl
    · rw [if_neg hc]
      refine take_no b ps ds v d f i _ w h hok hi hp hm ?_
      by_cases c1 : (ps[i]).1.done = true
      · exact .inl c1
      · have c1 : (ps[i]).1.done = false := by simpa using c1
        by_cases c2 : f.pos = (ps[i]).1.text.length
        · exact .inr (.inr ⟨c1, c2, Nat.not_le.1 fun h => hc ⟨c1, c2, h⟩⟩)
        · exact .inr (.inl ⟨c1, c2⟩)
  · have ht : takes (ps.map Prod.fst) f = none := by
      unfold takes
      rw [if_neg hz]
    rw [ht]
    exact take_out b ps ds v d f w h (by omega)
end MX
end Go.Proofs.Ytdkfoakmjeealaa
