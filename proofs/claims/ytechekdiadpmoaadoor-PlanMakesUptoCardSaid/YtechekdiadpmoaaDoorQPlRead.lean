/- Layer 13: what is read of items and of choices. -/
import Derived.Test.YtechekdiadpmoaaDoorQPlMap
import Derived.WalkKit
import Derived.WalkMore
import Derived.IntWalk
import Derived.BigRegion
import Derived.BigQuiet
import Derived.Shelf.Abstract
set_option linter.all false
set_option maxRecDepth 100000
set_option maxHeartbeats 25600000
namespace Go.Proofs.YtechekdiadpmoaaDoor
open Go.RowKit Go.Lib Go.Maps Go.BigFrame
namespace PR
open OM TM PL PM

set_option maxRecDepth 100000 in
theorem isWhat_any (k : Int) (w : World) : Calls Tryd.prog 43 #[.int .i64 k] w fun r w' => r = .returned (.bool (isWhatB k)) ∧ Below w.heap.size w w' := by
  unfold isWhatB
  by_cases h1 : k = 1
  · subst h1
    go_enter Tryd.func43, Tryd.ntmps43
    repeat (first | go_skip | go_guarded | go_step | go_upon)
    go_ret
    exact ⟨rfl, Below.refl _ _⟩
  · by_cases h2 : k = 2
    · subst h2
      go_enter Tryd.func43, Tryd.ntmps43
      repeat (first | go_skip | go_guarded | go_step | go_upon)
      go_ret
      exact ⟨rfl, Below.refl _ _⟩
    · by_cases h3 : k = 3
      · subst h3
        go_enter Tryd.func43, Tryd.ntmps43
        repeat (first | go_skip | go_guarded | go_step | go_upon)
        go_ret
        exact ⟨rfl, Below.refl _ _⟩
      · by_cases h4 : k = 4
        · subst h4
          go_enter Tryd.func43, Tryd.ntmps43
          repeat (first | go_skip | go_guarded | go_step | go_upon)
          go_ret
          exact ⟨rfl, Below.refl _ _⟩
        · have z1 : (k == 1) = false := by simpa using h1
          have z2 : (k == 2) = false := by simpa using h2
          have z3 : (k == 3) = false := by simpa using h3
          have z4 : (k == 4) = false := by simpa using h4
          have hr : Hid ((decide (k = 1) || (decide (k = 2) || (decide (k = 3) || decide (k = 4)))) = false) := Lib.hid (by simp [h1, h2, h3, h4])
          clear h1 h2 h3 h4
          go_enter Tryd.func43, Tryd.ntmps43
          repeat (first | go_skip | go_guarded | go_step | go_upon)
          go_ret
          exact ⟨by rw [hr.out]; rfl, Below.refl _ _⟩
set_option maxRecDepth 100000 in
theorem choosable_any (d k : Int) (w : World) : Calls Tryd.prog 44 #[.int .i64 d, .int .i64 k] w fun r w' => r = .returned (.bool (okChoice d k)) ∧ Below w.heap.size w w' := by
  have hw : k = 2 ∨ k = 3 ∨ k = 4 ∨ (k ≠ 2 ∧ k ≠ 3 ∧ k ≠ 4) := by omega
  have hd : d = 0 ∨ d = 1 ∨ d = 2 ∨ d = 3 ∨ d = 4 ∨ (d ≠ 0 ∧ d ≠ 1 ∧ d ≠ 2 ∧ d ≠ 3 ∧ d ≠ 4) := by omega
  rcases hd with rfl | rfl | rfl | rfl | rfl | ⟨e0, e1, e2, e3, e4⟩
  iterate 5
    · rcases hw with rfl | rfl | rfl | ⟨k2, k3, k4⟩
      iterate 3
        · go_enter Tryd.func44, Tryd.ntmps44
          repeat (first | go_skip | go_guarded | go_step | go_upon)
          go_ret
          exact ⟨rfl, Below.refl _ _⟩
      have z2 : (k == 2) = false := by simpa using k2
      have z3 : (k == 3) = false := by simpa using k3
      have z4 : (k == 4) = false := by simpa using k4
      have hR : Hid (∀ d : Int, okChoice d k = false) := Lib.hid (fun d => by
        unfold okChoice
        rw [decide_eq_false k2, decide_eq_false k3, decide_eq_false k4]
        split
        · rfl
        · split <;> rfl)
      clear k2 k3 k4
      go_enter Tryd.func44, Tryd.ntmps44
      repeat (first | go_skip | go_guarded | go_step | go_upon)
      go_ret
      exact ⟨by rw [hR.out]; rfl, Below.refl _ _⟩
  have z0 : (d == 0) = false := by simpa using e0
  have z1 : (d == 1) = false := by simpa using e1
  have z2 : (d == 2) = false := by simpa using e2
  have z3 : (d == 3) = false := by simpa using e3
  have z4 : (d == 4) = false := by simpa using e4
  have hR : Hid (okChoice d k = false) := Lib.hid (by unfold okChoice; rw [if_neg (by omega), if_neg e4])
  clear e0 e1 e2 e3 e4 hw
  go_enter Tryd.func44, Tryd.ntmps44
  repeat (first | go_skip | go_guarded | go_step | go_upon)
  go_ret
  exact ⟨by rw [hR.out]; rfl, Below.refl _ _⟩
theorem cells2 {W : World} {B : Nat} {t : TypeId} {a b : Value} (h : W.heap[B]? = some (.cells #[a, b] t (0, 0))) : W.cell? ⟨B, 0, none⟩ = some a ∧ W.cell? ⟨B, 1, none⟩ = some b := by simp [World.cell?, h]
theorem wf_small {k : Int} (h0 : 0 ≤ k) (h4 : k ≤ 4) : (Lit.int .i64 k).wf = true := by
  have : k = 0 ∨ k = 1 ∨ k = 2 ∨ k = 3 ∨ k = 4 := by omega
  rcases this with rfl | rfl | rfl | rfl | rfl <;> rfl
/-- What readItems and readChoices answer. -/
def ReadPost (L : List Pi) (o : Option Nat) (w : World) (r : Ending) (w' : World) : Prop :=
  Below w.heap.size w w' ∧ match o with
    | some n => r = .returned (.tuple #[.map none, .int .i64 n])
    | none => ∃ b n D, r = .returned (.tuple #[.map (some b), .int .i64 (-1)]) ∧ MapP w' b n D L ∧ n ≤ L.length ∧ w.heap.size ≤ b
theorem badI_step {acc : List Pi} {L : List Pi} {k : Nat} {x : Pi} (hk : L[k]? = some x) : badI (L.take k) (L.drop k) = if isWhatB x.2 = true ∧ findP (L.take k) x.1 = none then badI (L.take (k + 1)) (L.drop (k + 1)) else some (L.take k).length := by
  obtain ⟨hl, hx⟩ := List.getElem?_eq_some_iff.1 hk
  rw [List.drop_eq_getElem_cons hl, hx]
  conv => lhs; unfold badI
  rw [List.take_add_one, hk]
  rfl
def RIn (items : List Pi) (b : Nat) (k : Nat) (w wr : World) : Prop := (∃ D, MapP wr b k D (items.take k)) ∧ badI [] items = badI (items.take k) (items.drop k) ∧ (∀ y ∈ items.take k, isWhatB y.2 = true) ∧ Below w.heap.size w wr
set_option maxRecDepth 100000 in
set_option maxHeartbeats 6400000 in
theorem readItems_any (items : List Pi) (ao : Option Addr) (c : Nat) (w : World) (hI : ArgP w ao c items) :
    Calls Tryd.prog 27 #[.slice ao items.length c] w (ReadPost items (badI [] items) w) := by
  have HI := Lib.hid hI
  have hmm := @run_makeMap Tryd.prog
  have hlen := hI.len
  obtain ⟨n, hn⟩ : ∃ n, items.length = n := ⟨_, rfl⟩
  have HN := Lib.hid hn
  rw [hn] at hlen ⊢
  clear hI hn
  obtain ⟨R, hR⟩ : ∃ R, badI [] items = R := ⟨_, rfl⟩
  have HR := Lib.hid hR
  rw [hR]
  clear hR
  go_enter Tryd.func27, Tryd.ntmps27
  repeat (first | go_skip | go_guarded | go_step | go_upon)
  have h0 : Hid (RIn items w.heap.size 0 w (w.alloc (.map #[] 0))) := Lib.hid ⟨⟨_, MapP.made w⟩, rfl, fun y hy => by simp at hy, (Below.refl _ _).alloc (Nat.le_refl _) _⟩
  clear hmm
  generalize hw0 : w.alloc (.map #[] 0) = w0 at h0 ⊢
  clear hw0
  go_loopw [10] (fun s10 wr => ∃ k : Nat, s10 = .int .i64 k ∧ k ≤ n ∧ RIn items w.heap.size k w wr) (fun s10 _ => n - (Go.RowKit.intOf s10).toNat)
  case atStart => exact ⟨0, rfl, Nat.zero_le _, h0.out⟩
  case round =>
    obtain ⟨k, rfl, hk, hr⟩ := hrel
    have HRI := Lib.hid hr
    clear hr
    by_cases hlt : k < n
    · have hkz : (k : Int) < n := by omega
      obtain ⟨⟨D, hM⟩, hbad, hall, hbl⟩ := HRI.out
      obtain ⟨g, o, rfl, hg, hc⟩ := (HI.out.below hbl).lay (by rw [HN.out]; omega)
      obtain ⟨⟨p, v⟩, hx⟩ : ∃ x, items[k]? = some x := ⟨items[k]'(by rw [HN.out]; exact hlt), List.getElem?_eq_getElem _⟩
      have hps : p.length ≤ maxLen := by have := HI.out.small (p, v) (List.mem_of_getElem? hx); unfold maxLen; simp only at this; omega
      obtain ⟨a0, a1⟩ := hc k _ hx
      simp only at a0 a1
      unfold txt at a0
      have HB := Lib.hid hbad
      have HST := Lib.hid (badI_step (acc := []) hx)
      have HM := Lib.hid hM
      have HBl := Lib.hid hbl
      have HAl := Lib.hid hall
      have HX := Lib.hid hx
      have HPs := Lib.hid hps
      clear hbad hM hbl hall hc hps hx
      repeat (first | go_skip | go_guarded | go_step | go_upon)
      have hnew : (wr.alloc (.cells #[.string ⟨p.toArray⟩, .int .i64 v] 34)).heap[wr.heap.size]? = some (.cells #[.string ⟨p.toArray⟩, .int .i64 v] 34 (0, 0)) := heap_alloc_new wr _
      have hsz : (wr.alloc (.cells #[.string ⟨p.toArray⟩, .int .i64 v] 34)).heap.size = wr.heap.size + 1 := by simp
      have ha : Below wr.heap.size wr (wr.alloc (.cells #[.string ⟨p.toArray⟩, .int .i64 v] 34)) := (Below.refl _ _).alloc (Nat.le_refl _) _
      generalize wr.alloc (.cells #[.string ⟨p.toArray⟩, .int .i64 v] 34) = wa at hnew hsz ha ⊢
      obtain ⟨q0, q1⟩ := cells2 hnew
      have Q0 := Lib.hid q0
      have Q1 := Lib.hid q1
      have HSZ := Lib.hid hsz
      have HA := Lib.hid ha
      clear hnew hsz ha q0 q1 a0 a1
      refine (isWhat_any v wa).mono ?_
      rintro r w2 ⟨rfl, hb2⟩
      simp only []
      have D0 : w2.cell? ⟨wr.heap.size, 0, none⟩ = some (.string ⟨p.toArray⟩) := (hb2.cell (p := ⟨wr.heap.size, 0, none⟩) (by show wr.heap.size < _; rw [HSZ.out]; omega)).trans Q0.out
      have D1 : w2.cell? ⟨wr.heap.size, 1, none⟩ = some (.int .i64 v) := (hb2.cell (p := ⟨wr.heap.size, 1, none⟩) (by show wr.heap.size < _; rw [HSZ.out]; omega)).trans Q1.out
      have hb3 : Below wr.heap.size wr w2 := HA.out.trans (hb2.mono HA.out.size)
      have M2 := HM.out.below hb3
      have HB2 : Hid (Below w.heap.size w w2) := Lib.hid (HBl.out.trans (hb3.mono HBl.out.size))
      clear hb2 hb3
      obtain ⟨b1, hb1⟩ : ∃ b1, isWhatB v = b1 := ⟨_, rfl⟩
      rw [hb1]
      have HB1 := Lib.hid hb1
      clear hb1
      cases b1 with
      | false =>
        have HRk : Hid (R = some k) := Lib.hid (by
          rw [← HR.out, HB.out, HST.out, if_neg (by rw [HB1.out]; simp), List.length_take, HN.out]
          congr 1
          omega)
        repeat (first | go_skip | go_guarded | go_step | go_upon)
        go_ret2
        refine ⟨HB2.out, ?_⟩
        rw [HRk.out]
        rfl
      | true =>
        obtain ⟨hv1, hv4⟩ := isWhat_range HB1.out
        have hwf : Hid ((Lit.int .i64 v).wf = true) := Lib.hid (wf_small (by omega) hv4)
        clear hv1 hv4
        cases hf : findP (items.take k) p with
        | some d =>
          have hd := isWhat_range (HAl.out _ (find_mem hf))
          have dne : (d != 0) = true := by simp only [bne_iff_ne, ne_eq]; omega
          have HRk : Hid (R = some k) := Lib.hid (by
            rw [← HR.out, HB.out, HST.out, if_neg (by rw [hf]; simp), List.length_take, HN.out]
            congr 1
            omega)
          have HF := Lib.hid hf
          clear hf hd
          have hLR := M2.look_run 66 Tryd.underlying66 p HPs.out
          rw [HF.out, Option.getD_some] at hLR
          clear M2
          repeat (first | go_skip | go_guarded | go_step | go_upon)
          go_ret2
          refine ⟨HB2.out, ?_⟩
          rw [HRk.out]
          rfl
        | none =>
          have HF := Lib.hid hf
          clear hf
          have M2h := Lib.hid M2
          clear M2
          have hkm : k < maxLen := by unfold maxLen; omega
          have HRI2 : Hid (∀ w' D', MapP w' w.heap.size (k + 1) D' (items.take k ++ [(p, v)]) → w2.grownBy w' (some w.heap.size) → RIn items w.heap.size (k + 1) w w') := Lib.hid (fun w' D' h1 h2 => by
            have ht : items.take (k + 1) = items.take k ++ [(p, v)] := by rw [List.take_add_one, HX.out]; rfl
            refine ⟨⟨D', by rw [ht]; exact h1⟩, ?_, ?_, HB2.out.grown h2 HB2.out.size (fun j e => by cases e; exact Nat.le_refl _)⟩
            · rw [HB.out, HST.out, if_pos ⟨HB1.out, HF.out⟩]
            · rw [ht]
              intro y hy
              rcases List.mem_append.1 hy with hy | hy
              · exact HAl.out y hy
              · rw [List.mem_singleton.1 hy]; exact HB1.out)
          have hLR := M2h.out.look_run 66 Tryd.underlying66 p HPs.out
          rw [HF.out, Option.getD_none] at hLR
          repeat (first
            | (at_mapUpdate; refine put_map rfl _ _ _ _ rfl Tryd.underlying66 rfl M2h.out hkm p HPs.out rfl v rfl hwf.out HF.out ?_; intro w5 D5 hm5 hg5; have HI5 := Lib.hid (HRI2.out _ _ hm5 hg5); clear hm5 hg5)
            | go_skip | go_guarded | go_step | go_upon)
          exact ⟨⟨k + 1, by go_num, by omega, HI5.out⟩, by simp [Go.RowKit.intOf]; omega⟩
    · obtain rfl : k = n := by omega
      obtain ⟨⟨D, hM⟩, hbad, hall, hbl⟩ := HRI.out
      have ht : items.take k = items := by rw [← HN.out]; exact List.take_length
      have hd : items.drop k = [] := by rw [← HN.out]; exact List.drop_length
      rw [hd] at hbad
      have hRn : R = none := by rw [← HR.out, hbad]; rfl
      rw [ht] at hM
      have HM := Lib.hid hM
      have HBl := Lib.hid hbl
      have HRn := Lib.hid hRn
      clear hbad hM hbl hall ht hd hRn
      repeat (first | go_skip | go_guarded | go_step | go_upon)
      go_ret2
      refine ⟨HBl.out, ?_⟩
      rw [HRn.out]
      exact ⟨_, _, D, rfl, HM.out, by rw [HN.out]; exact Nat.le_refl _, Nat.le_refl _⟩
theorem badC_step {items L : List Pi} {k : Nat} {x : Pi} (hk : L[k]? = some x) : badC items (L.take k) (L.drop k) = if findP (L.take k) x.1 = none ∧ okChoice x.2 (whatAt items x.1) = true then badC items (L.take (k + 1)) (L.drop (k + 1)) else some (L.take k).length := by
  obtain ⟨hl, hx⟩ := List.getElem?_eq_some_iff.1 hk
  rw [List.drop_eq_getElem_cons hl, hx]
  conv => lhs; unfold badC
  rw [List.take_add_one, hk]
  rfl
def CIn (items cs : List Pi) (b : Nat) (k : Nat) (w wr : World) : Prop := (∃ D, MapP wr b k D (cs.take k)) ∧ badC items [] cs = badC items (cs.take k) (cs.drop k) ∧ Below w.heap.size w wr
set_option maxRecDepth 100000 in
set_option maxHeartbeats 6400000 in
theorem readChoices_any (items cs : List Pi) (ao : Option Addr) (c bw nw : Nat) (Dw : DataW Value) (w : World) (hI : ArgP w ao c cs) (hWh : MapP w bw nw Dw items) :
    Calls Tryd.prog 28 #[.slice ao cs.length c, .map (some bw)] w (ReadPost cs (badC items [] cs) w) := by
  have HI := Lib.hid hI
  have HWh := Lib.hid hWh
  have hmm := @run_makeMap Tryd.prog
  have hlen := hI.len
  obtain ⟨n, hn⟩ : ∃ n, cs.length = n := ⟨_, rfl⟩
  have HN := Lib.hid hn
  rw [hn] at hlen ⊢
  clear hI hn hWh
  obtain ⟨R, hR⟩ : ∃ R, badC items [] cs = R := ⟨_, rfl⟩
  have HR := Lib.hid hR
  rw [hR]
  clear hR
  go_enter Tryd.func28, Tryd.ntmps28
  repeat (first | go_skip | go_guarded | go_step | go_upon)
  have h0 : Hid (CIn items cs w.heap.size 0 w (w.alloc (.map #[] 0))) := Lib.hid ⟨⟨_, MapP.made w⟩, rfl, (Below.refl _ _).alloc (Nat.le_refl _) _⟩
  clear hmm
  generalize hw0 : w.alloc (.map #[] 0) = w0 at h0 ⊢
  clear hw0
  go_loopw [14] (fun s10 wr => ∃ k : Nat, s10 = .int .i64 k ∧ k ≤ n ∧ CIn items cs w.heap.size k w wr) (fun s10 _ => n - (Go.RowKit.intOf s10).toNat)
  case atStart => exact ⟨0, rfl, Nat.zero_le _, h0.out⟩
  case round =>
    obtain ⟨k, rfl, hk, hr⟩ := hrel
    have HRI := Lib.hid hr
    clear hr
    by_cases hlt : k < n
    · have hkz : (k : Int) < n := by omega
      obtain ⟨⟨D, hM⟩, hbad, hbl⟩ := HRI.out
      obtain ⟨g, o, rfl, hg, hc⟩ := (HI.out.below hbl).lay (by rw [HN.out]; omega)
      obtain ⟨⟨p, v⟩, hx⟩ : ∃ x, cs[k]? = some x := ⟨cs[k]'(by rw [HN.out]; exact hlt), List.getElem?_eq_getElem _⟩
      have hps : p.length ≤ maxLen := by have := HI.out.small (p, v) (List.mem_of_getElem? hx); unfold maxLen; simp only at this; omega
      obtain ⟨a0, a1⟩ := hc k _ hx
      simp only at a0 a1
      unfold txt at a0
      have HB := Lib.hid hbad
      have HST := Lib.hid (badC_step (items := items) hx)
      have HM := Lib.hid hM
      have HBl := Lib.hid hbl
      have HX := Lib.hid hx
      have HPs := Lib.hid hps
      have MA := Lib.hid (hM.below ((Below.refl wr.heap.size wr).alloc (Nat.le_refl _) (.cells #[.string ⟨p.toArray⟩, .int .i64 v] 51)))
      clear hbad hM hbl hc hps hx
      cases hf : findP (cs.take k) p with
      | some d =>
        have HF := Lib.hid hf
        have HRk : Hid (R = some k) := Lib.hid (by
          rw [← HR.out, HB.out, HST.out, if_neg (by rw [hf]; simp), List.length_take, HN.out]
          congr 1
          omega)
        clear hf
        have B2 : Hid (Below w.heap.size w (wr.alloc (.cells #[.string ⟨p.toArray⟩, .int .i64 v] 51))) := Lib.hid (HBl.out.alloc HBl.out.size _)
        repeat (first | (at_lookup; refine look_ok rfl _ _ _ rfl Tryd.underlying66 rfl MA.out p HPs.out rfl ?_; rw [HF.out]; simp only [Option.getD_some, Option.isSome_some]) | go_skip | go_guarded | go_step | go_upon)
        go_ret2
        refine ⟨B2.out, ?_⟩
        rw [HRk.out]
        rfl
      | none =>
        have HF := Lib.hid hf
        clear hf
        have hbw : Below w.heap.size w (wr.alloc (.cells #[.string ⟨p.toArray⟩, .int .i64 v] 51)) := HBl.out.alloc HBl.out.size _
        have hLR := (HWh.out.below hbw).look_run 66 Tryd.underlying66 p HPs.out
        have hwv : (findP items p).getD 0 = whatAt items p := rfl
        rw [hwv] at hLR
        clear hwv hbw
        obtain ⟨wv, hwv⟩ : ∃ wv, whatAt items p = wv := ⟨_, rfl⟩
        rw [hwv] at hLR
        have HWV := Lib.hid hwv
        clear hwv
        repeat (first | (at_lookup; refine look_ok rfl _ _ _ rfl Tryd.underlying66 rfl MA.out p HPs.out rfl ?_; rw [HF.out]; simp only [Option.getD_none, Option.isSome_none]) | go_skip | go_guarded | go_step | go_upon)
        have hnew : (wr.alloc (.cells #[.string ⟨p.toArray⟩, .int .i64 v] 51)).heap[wr.heap.size]? = some (.cells #[.string ⟨p.toArray⟩, .int .i64 v] 51 (0, 0)) := heap_alloc_new wr _
        have hsz : (wr.alloc (.cells #[.string ⟨p.toArray⟩, .int .i64 v] 51)).heap.size = wr.heap.size + 1 := by simp
        have ha : Below wr.heap.size wr (wr.alloc (.cells #[.string ⟨p.toArray⟩, .int .i64 v] 51)) := (Below.refl _ _).alloc (Nat.le_refl _) _
        clear hLR
        generalize wr.alloc (.cells #[.string ⟨p.toArray⟩, .int .i64 v] 51) = wa at hnew hsz ha MA ⊢
        obtain ⟨q0, q1⟩ := cells2 hnew
        have Q0 := Lib.hid q0
        have Q1 := Lib.hid q1
        have HSZ := Lib.hid hsz
        have HA := Lib.hid ha
        clear hnew hsz ha q0 q1 a0 a1
        refine (choosable_any v wv wa).mono ?_
        rintro r w2 ⟨rfl, hb2⟩
        simp only []
        have D0 : w2.cell? ⟨wr.heap.size, 0, none⟩ = some (.string ⟨p.toArray⟩) := (hb2.cell (p := ⟨wr.heap.size, 0, none⟩) (by show wr.heap.size < _; rw [HSZ.out]; omega)).trans Q0.out
        have D1 : w2.cell? ⟨wr.heap.size, 1, none⟩ = some (.int .i64 v) := (hb2.cell (p := ⟨wr.heap.size, 1, none⟩) (by show wr.heap.size < _; rw [HSZ.out]; omega)).trans Q1.out
        have M2h := Lib.hid (MA.out.below hb2)
        have hb3 : Below wr.heap.size wr w2 := HA.out.trans (hb2.mono HA.out.size)
        have HB2 : Hid (Below w.heap.size w w2) := Lib.hid (HBl.out.trans (hb3.mono HBl.out.size))
        clear hb2 hb3
        obtain ⟨b1, hb1⟩ : ∃ b1, okChoice v wv = b1 := ⟨_, rfl⟩
        rw [hb1]
        have HB1 := Lib.hid hb1
        clear hb1
        cases b1 with
        | false =>
          have HRk : Hid (R = some k) := Lib.hid (by
            rw [← HR.out, HB.out, HST.out, if_neg (by simp only [HWV.out, HB1.out]; simp), List.length_take, HN.out]
            congr 1
            omega)
          repeat (first | go_skip | go_guarded | go_step | go_upon)
          go_ret2
          refine ⟨HB2.out, ?_⟩
          rw [HRk.out]
          rfl
        | true =>
          obtain ⟨hv1, hv4, _⟩ := what_range HB1.out
          have hwf : Hid ((Lit.int .i64 v).wf = true) := Lib.hid (wf_small hv1 hv4)
          clear hv1 hv4
          have hkm : k < maxLen := by unfold maxLen; omega
          have HRI2 : Hid (∀ w' D', MapP w' w.heap.size (k + 1) D' (cs.take k ++ [(p, v)]) → w2.grownBy w' (some w.heap.size) → CIn items cs w.heap.size (k + 1) w w') := Lib.hid (fun w' D' h1 h2 => by
            have ht : cs.take (k + 1) = cs.take k ++ [(p, v)] := by rw [List.take_add_one, HX.out]; rfl
            refine ⟨⟨D', by rw [ht]; exact h1⟩, ?_, HB2.out.grown h2 HB2.out.size (fun j e => by cases e; exact Nat.le_refl _)⟩
            rw [HB.out, HST.out, if_pos ⟨HF.out, by simp only [HWV.out]; exact HB1.out⟩])
          repeat (first
            | (at_mapUpdate; refine put_map rfl _ _ _ _ rfl Tryd.underlying66 rfl M2h.out hkm p HPs.out rfl v rfl hwf.out HF.out ?_; intro w5 D5 hm5 hg5; have HI5 := Lib.hid (HRI2.out _ _ hm5 hg5); clear hm5 hg5)
            | go_skip | go_guarded | go_step | go_upon)
          exact ⟨⟨k + 1, by go_num, by omega, HI5.out⟩, by simp [Go.RowKit.intOf]; omega⟩
    · obtain rfl : k = n := by omega
      obtain ⟨⟨D, hM⟩, hbad, hbl⟩ := HRI.out
      have ht : cs.take k = cs := by rw [← HN.out]; exact List.take_length
      have hd : cs.drop k = [] := by rw [← HN.out]; exact List.drop_length
      rw [hd] at hbad
      have hRn : R = none := by rw [← HR.out, hbad]; rfl
      rw [ht] at hM
      have HM := Lib.hid hM
      have HBl := Lib.hid hbl
      have HRn := Lib.hid hRn
      clear hbad hM hbl ht hd hRn
      repeat (first | go_skip | go_guarded | go_step | go_upon)
      go_ret2
      refine ⟨HBl.out, ?_⟩
      rw [HRn.out]
      exact ⟨_, _, D, rfl, HM.out, by rw [HN.out]; exact Nat.le_refl _, Nat.le_refl _⟩
end PR
end Go.Proofs.YtechekdiadpmoaaDoor
