/- Layer 16: a receiver's Text, Done. -/
import Derived.Test.YtdkfoakmjeealaaQMxIn
import Derived.Test.YtdkfoakmjeealaaQMxPiece
import Derived.Test.YtdkfoakmjeealaaShelf
import Derived.Lib.BufferRead
set_option linter.all false
set_option maxRecDepth 100000
set_option maxHeartbeats 25600000
namespace Go.Proofs.Ytdkfoakmjeealaa
open Go.RowKit Go.Lib Go.BigFrame
namespace MX
open OM FP

def rcAt (ps : List (Rc × Value)) (z : Int) : Option (Rc × Value) := if 0 ≤ z then ps[z.toNat]? else none
theorem rcAt_none {ps : List (Rc × Value)} {z : Int} (h : rcAt ps z = none) : z < 0 ∨ (ps.length : Int) ≤ z := by
  unfold rcAt at h
  split at h
  · rename_i h0
    have := List.getElem?_eq_none_iff.1 h
    omega
  · omega
theorem rcAt_some {ps : List (Rc × Value)} {z : Int} {c : Rc × Value} (h : rcAt ps z = some c) : ∃ i : Nat, z = i ∧ ps[i]? = some c := by
  unfold rcAt at h
  split at h
  · rename_i h0
    exact ⟨z.toNat, by omega, h⟩
  · cases h
def textV (ps : List (Rc × Value)) (z : Int) : Rc := (rcAt ps z).elim noR Prod.fst
theorem own_bytes {w : World} {B : Nat} {v : Value} {l : List UInt8} (h : w.ownsRow B 5 1 v l.length (bytesC l)) : (convert 93 9 v).run Try.prog w = .ok (.string ⟨l.toArray⟩) w := by
  obtain ⟨ao, c, rfl, hx⟩ := owns_view h
  rcases Nat.eq_zero_or_pos l.length with h0 | h0
  · have hl := List.eq_nil_of_length_eq_zero h0
    subst hl
    rcases h.2 with ⟨hv, _⟩ | ⟨g, cap, cur, hv, _⟩
    · rw [hv]
      exact run_convert_nil_bytes w 93 9 5 0 Try.underlying93 Try.underlying5 Try.underlying9
    · rw [hv]
      exact run_convert_bytes_back (P := Try.prog) w 93 9 5 ⟨g, 0, none⟩ cap [] Try.underlying93 Try.underlying5 Try.underlying9 (fun j hj => absurd hj (by simp))
  · obtain ⟨g, rfl, _, _, hc⟩ := hx h0
    exact run_convert_bytes_back (P := Try.prog) w 93 9 5 ⟨g, 0, none⟩ c l Try.underlying93 Try.underlying5 Try.underlying9 (fun j hj => by
      have e : (⟨g, 0, none⟩ : Addr).add j = ⟨g, j, none⟩ := by simp [Addr.add]; omega
      rw [e, hc j (by omega)]
      unfold bytesC
      rw [List.getElem?_map, List.getElem?_eq_getElem hj]
      rfl)
set_option maxRecDepth 100000 in
set_option maxHeartbeats 3200000 in
theorem Text_any (b : Nat) (ps : List (Rc × Value)) (ds : List Int) (v d : Value) (z : Int) (w : World) (h : InA b ps ds v d w) :
    Calls Try.prog 19 #[ptr b, .int .i64 z] w fun r w' => r = .returned (.tuple #[txt (textV ps z).text, .bool (textV ps z).done]) ∧ Below w.heap.size w w' := by
  cases hc : rcAt ps z with
  | none =>
    have CN := Lib.hid (callC_no b ps ds v d z w h (rcAt_none hc))
    have hw : textV ps z = noR := by unfold textV; rw [hc]; rfl
    rw [hw]
    clear h hc hw
    go_enter Try.func19, Try.ntmps19
    repeat (first | (go_at_call 35; refine CN.out.mono ?_; rintro r w1 ⟨rfl, rfl⟩; simp only []) | go_skip | go_guarded | go_step | go_upon)
    go_ret2
    exact ⟨rfl, Below.refl _ _⟩
  | some p =>
    obtain ⟨i, rfl, hi⟩ := rcAt_some hc
    obtain ⟨g, k, cur, rfl, hr, ht, hne, q0, q1, q2⟩ := h.at hi
    have CA := Lib.hid (callC_at b ps ds d g k i w h (List.getElem?_eq_some_iff.1 hi).1)
    have ho := h.tx p (List.mem_of_getElem? hi)
    have hw : textV ps (i : Nat) = p.1 := by unfold textV; rw [hc]; rfl
    rw [hw]
    obtain ⟨ao, c, e, -⟩ := owns_view ho
    have c1 := (row_cell hr).trans q1
    have c2 := (row_cell hr).trans q2
    rw [e] at c2 ho
    obtain ⟨l, hl⟩ : ∃ l, p.1.text = l := ⟨_, rfl⟩
    obtain ⟨dn, hd⟩ : ∃ dn, p.1.done = dn := ⟨_, rfl⟩
    rw [hd] at c1
    rw [hl] at c2 ho ⊢
    rw [hd]
    have hcv := own_bytes ho
    have HO := Lib.hid ho
    obtain ⟨T, hT⟩ : ∃ T : ByteArray, ⟨l.toArray⟩ = T := ⟨_, rfl⟩
    rw [hT] at hcv
    unfold txt
    rw [hT]
    have hcr : ∀ d os, (convert 93 9 (.slice ao l.length c)).run Try.prog (Go.Sort.grow (redrawn w d) os) = .ok (.string T) (Go.Sort.grow (redrawn w d) os) := fun d os => by
      rw [← hT]
      exact own_bytes (owns_below HO.out (below_regrown w d os))
    clear h hc hw hr ht hne q0 q1 q2 ho hi
    go_enter Try.func19, Try.ntmps19
    repeat (first | (go_at_call 35; refine CA.out.mono ?_; rintro r w1 ⟨rfl, rfl⟩; simp only []) | go_skip | go_guarded | go_step | go_upon)
    have r1 := cell_regrown c1
    have r2 := cell_regrown c2
    with_reducible refine wp_region_quiet_below (by kernel_rfl) (by kernel_rfl) ?_
    repeat (go_big_quiet_step (fail))
    refine wpQuiet_nil ?_
    intro _ hw'
    obtain ⟨⟨dq, osq⟩, hw''⟩ := hw'
    subst hw''
    have W5 : Hid (Below w1.heap.size w1 (Go.Sort.grow (redrawn w1 dq) osq)) := Lib.hid (below_regrown w1 dq osq)
    generalize Go.Sort.grow (redrawn w1 dq) osq = w5 at W5 ⊢
    clear r1 r2
    repeat (first | go_skip | go_guarded | go_step | go_upon)
    go_ret2
    exact ⟨rfl, W5.out⟩
set_option maxRecDepth 100000 in
set_option maxHeartbeats 3200000 in
theorem Done_any (b : Nat) (ps : List (Rc × Value)) (ds : List Int) (v d : Value) (w : World) (h : InA b ps ds v d w) (hm : ds.length ≤ 1000) :
    Calls Try.prog 24 #[ptr b] w fun r w' => ∃ u, r = .returned u ∧ w'.ownsRow w.heap.size 3 1 u ds.length (ds.map intV) ∧ Below w.heap.size w w' := by
  obtain ⟨ao, c, rfl, hx⟩ := owns_view h.don
  have hdon := h.don
  have c1 := (row_cell (j := 1) h.row).trans rfl
  have CC : Hid (Calls Try.prog 37 #[.slice ao ds.length c] w fun e w' => ∃ v', e = .returned v' ∧ w'.ownsRow w.heap.size 3 1 v' ds.length (ds.map intV) ∧ Below w.heap.size w w') := Lib.hid (by
    cases ao with
    | none =>
      have h0 : ds.length = 0 := by
        rcases hdon.2 with ⟨_, h0⟩ | ⟨g, cap, cur, hv, _⟩
        · exact h0
        · injection hv with hv; cases hv
      have hd := List.eq_nil_of_length_eq_zero h0
      subst hd
      refine (Try.slices_Clone_int_nil 0 c w).mono ?_
      rintro e w' ⟨rfl, rfl⟩
      exact ⟨_, rfl, World.ownsRow_nil _ _ _ _, Below.refl _ _⟩
    | some a =>
      rcases Nat.eq_zero_or_pos ds.length with h0 | h0
      · have hd := List.eq_nil_of_length_eq_zero h0
        subst hd
        refine (Try.slices_Clone_int_zero a c w).mono ?_
        rintro e w' ⟨v', rfl, ho, _, hb⟩
        exact ⟨_, rfl, ho, hb⟩
      · obtain ⟨g, e, _, _, hcell⟩ := hx h0
        injection e with e
        subst e
        refine (Try.slices_Clone_int g 0 ds.length c ds w (Nat.le_refl _) (by omega) (fun j hj => ?_)).mono ?_
        · rw [Nat.zero_add, hcell j (by omega), List.getElem?_map, List.getD_eq_getElem?_getD, List.getElem?_eq_getElem hj]
          rfl
        · rintro e w' ⟨v', rfl, ho, _, hb⟩
          rw [List.take_length] at ho
          exact ⟨_, rfl, ho, hb⟩)
  obtain ⟨n, hn⟩ : ∃ n, ds.length = n := ⟨_, rfl⟩
  have HN := Lib.hid hn
  rw [hn] at c1 CC ⊢
  clear h hx hdon hn hm
  go_enter Try.func24, Try.ntmps24
  repeat (first | (go_at_call 37; fail) | go_skip | go_guarded | go_step | go_upon)
  refine CC.out.mono ?_
  rintro r w1 ⟨u, rfl, ho, hb⟩
  simp only []
  have HO := Lib.hid ho
  have HB := Lib.hid hb
  clear ho hb
  repeat (first | go_skip | go_guarded | go_step | go_upon)
  go_ret
  exact ⟨u, rfl, HO.out, HB.out⟩
end MX
end Go.Proofs.Ytdkfoakmjeealaa
