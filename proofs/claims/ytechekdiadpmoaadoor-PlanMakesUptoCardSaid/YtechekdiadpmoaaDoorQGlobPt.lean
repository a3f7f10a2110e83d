/- Layer 2: the contract of readPart. -/
import Derived.Test.YtechekdiadpmoaaDoorQGlobEl
set_option linter.all false
set_option maxRecDepth 100000
set_option maxHeartbeats 25600000
namespace Go.Proofs.YtechekdiadpmoaaDoor
open Go.RowKit Go.Lib
namespace GR
open GP GM NF

def ptV (t : PT) : Value := .agg #[.bool t.m, t.v]
/-- A part that a call hands back and -1, or the place of its fault. -/
def PtPost (r : Except Nat Pt) (w : World) (e : Ending) (w' : World) : Prop :=
  ∃ (t : PT) (k : Int), e = .returned (.tuple #[ptV t, .int .i64 k]) ∧ Below w.heap.size w w' ∧ (∃ a n c, t.v = .slice a n c) ∧ (∀ f, r = .error f → k = f) ∧ (∀ p, r = .ok p → k = -1 ∧ LPt w' t p)
/-- A block of two cells. -/
def Duo (w : World) (b : Nat) (m : Bool) (v : Value) : Prop := w.heap[b]? = some (.cells #[.bool m, v] 119 (0, 0))
theorem Duo.cells {w : World} {b : Nat} {m : Bool} {v : Value} (h : Duo w b m v) : w.cell? ⟨b, 0, none⟩ = some (.bool m) ∧ w.cell? ⟨b, 1, none⟩ = some v ∧ w.frozen? ⟨b, 0, none⟩ = false ∧ w.frozen? ⟨b, 1, none⟩ = false :=
  ⟨cell_of_row w b 0 _ _ _ h, cell_of_row w b 1 _ _ _ h, frozen_of_row w b 0 _ _ h, frozen_of_row w b 1 _ _ h⟩
theorem Duo.lt {w : World} {b : Nat} {m : Bool} {v : Value} (h : Duo w b m v) : b < w.heap.size := (Array.getElem?_eq_some_iff.1 h).1
theorem Duo.below {w w' : World} {b : Nat} {m : Bool} {v : Value} (h : Duo w b m v) {B : Nat} (hb : Below B w w') (hB : b < B) : Duo w' b m v := by
  unfold Duo
  rw [hb.block b hB]
  exact h
theorem Duo.alloc {w : World} {b : Nat} {m : Bool} {v : Value} (h : Duo w b m v) (o : Obj) : Duo (w.alloc o) b m v :=
  h.below (B := b + 1) ((Below.refl _ _).alloc h.lt o) (by omega)
theorem Duo.grown {w w' : World} {b : Nat} {m : Bool} {v : Value} (h : Duo w b m v) {row : Option Nat} (hg : w.grownBy w' row) (hr : row ≠ some b) : Duo w' b m v := by
  unfold Duo
  rw [hg.block b h.lt (Ne.symm hr)]
  exact h
theorem Duo.set {w : World} {b : Nat} {m : Bool} {v : Value} (h : Duo w b m v) (u : Value) : Duo (w.setCell ⟨b, 1, none⟩ u) b m u := by
  unfold Duo
  rw [heap_setCell_same w b 1 _ _ u h]
  rfl
theorem Duo.other {w : World} {b : Nat} {m : Bool} {v : Value} (h : Duo w b m v) (b' : Nat) (hb : b ≠ b') (j : Nat) (u : Value) : Duo (w.setCell ⟨b', j, none⟩ u) b m v := by
  unfold Duo
  rw [Below.heap_setCell _ _ _ _ hb]
  exact h
theorem Duo.others {w : World} {b : Nat} {m : Bool} {v : Value} (h : Duo w b m v) (j : Nat) (x : Value) : OthersKept 119 none w (w.setCell ⟨b, j, none⟩ x) := by
  intro k o hk _ ho
  rw [Below.heap_setCell]
  · exact hk
  · rintro rfl
    unfold Duo at h
    rw [hk] at h
    exact ho _ _ (Option.some.inj h)
theorem Duo.others2 {w : World} {b : Nat} {m : Bool} {v : Value} (h : Duo w b m v) (x y : Value) : OthersKept 119 none w ((w.setCell ⟨b, 0, none⟩ x).setCell ⟨b, 1, none⟩ y) := by
  intro k o hk _ ho
  have hne : k ≠ b := by
    rintro rfl
    unfold Duo at h
    rw [hk] at h
    exact ho _ _ (Option.some.inj h)
  rw [Below.heap_setCell _ _ _ _ hne, Below.heap_setCell _ _ _ _ hne]
  exact hk
theorem below2 {B : Nat} {w wr : World} (h : Below B w wr) {b : Nat} (hB : B ≤ b) (x y : Value) : Below B w ((wr.setCell ⟨b, 0, none⟩ x).setCell ⟨b, 1, none⟩ y) :=
  (h.setCell (p := ⟨b, 0, none⟩) hB _).setCell (p := ⟨b, 1, none⟩) hB _
theorem one_el (w : World) (a b c : Value) : ∀ j u, [a, b, c][j]? = some u → (w.alloc (.cells #[a, b, c] 141)).cell? ((⟨w.heap.size, 0, none⟩ : Addr).add j) = some u := by
  intro j u hj
  match j, hj with
  | 0, hj => simp at hj; subst hj; exact World.cell?_alloc_at _ _ _ _ rfl
  | 1, hj => simp at hj; subst hj; exact World.cell?_alloc_at _ _ _ _ rfl
  | 2, hj => simp at hj; subst hj; exact World.cell?_alloc_at _ _ _ _ rfl
  | j + 3, hj => simp at hj
/-- What a round of readPart leaves. -/
structure PtRel (l0 : List UInt8) (w : World) (k : Nat) (acc : List El) (v : Value) (tr : List ET) (wr : World) : Prop where
  le : k ≤ l0.length
  few : acc.length ≤ k
  go : ptR (l0.drop k) k acc = ptR l0 0 []
  len : tr.length = acc.length
  own : wr.ownsRow (w.heap.size + 2) 141 3 v acc.length (elCells tr)
  lie : ∀ (j : Nat) t e, tr[j]? = some t → acc[j]? = some e → LEl wr t e
  res : Duo wr w.heap.size false (.slice none 0 0)
  el : Duo wr (w.heap.size + 1) false v
  below : Below w.heap.size w wr
theorem PtRel.next {l0 : List UInt8} {w : World} {k : Nat} {acc : List El} {v : Value} {tr : List ET} {wr w2 w3 : World} {o1 o2 : Obj} {v' : Value} {t : ET} {e : El} {n : Nat}
    (h : PtRel l0 w k acc v tr wr) (hk : k < l0.length) (he : elL (l0.drop k) = some (e, n)) (hb : Below wr.heap.size wr w2) (hle : LEl w2 t e)
    (hown : w3.ownsRow (w.heap.size + 2) 141 3 v' (acc.length + 1) (elCells tr ++ [.bool t.m, .bool t.n, t.v])) (hg : ((w2.alloc o1).alloc o2).grownBy w3 v.ownBlock) :
    PtRel l0 w (k + n) (acc ++ [e]) v' (tr ++ [t]) (w3.setCell ⟨w.heap.size + 1, 1, none⟩ v') := by
  have hlt := h.el.lt
  have hv : ∀ k, v.ownBlock = some k → w.heap.size + 2 ≤ k := fun k hk => (h.own.lt k hk).1
  have hne : l0.drop k ≠ [] := by
    intro e
    have := congrArg List.length e
    rw [List.length_drop] at this
    simp at this
    omega
  have hn := elL_le hne he
  rw [List.length_drop] at hn
  have hown2 : ((w2.alloc o1).alloc o2).ownsRow (w.heap.size + 2) 141 3 v acc.length (elCells tr) := ((owns_below h.own hb).alloc _).alloc _
  have k2 : OthersKept 141 none w2 w3 := (((OthersKept.refl _ _ _).alloc _).alloc _).grown hg (owns_kind hown2)
  have hd3 : Duo w3 (w.heap.size + 1) false v := by
    refine Duo.grown ?_ hg (fun e => by have := hv _ e; omega)
    exact ((h.el.below hb (by omega)).alloc _).alloc _
  have k3 := hd3.others 1 v'
  have keep : ∀ t e, LEl w2 t e → LEl (w3.setCell ⟨w.heap.size + 1, 1, none⟩ v') t e := fun t e hte => (hte.kept (T := 141) (by decide) k2).kept (T := 119) (by decide) k3
  refine ⟨by omega, ?_, ?_, ?_, ?_, ?_, ?_, ?_, ?_⟩
  · rw [List.length_append]
    have := h.few
    simp only [List.length_cons, List.length_nil]
    omega
  · rw [← h.go, ptR_step (l := l0.drop k) hne, he]
    simp only [List.drop_drop]
  · simp [h.len]
  · refine owns_set ?_ _ (by simp) _
    have e : (acc ++ [e]).length = acc.length + 1 := by simp
    rw [e]
    unfold elCells at hown ⊢
    rw [flat_snoc]
    exact hown
  · intro j x y hx hy
    by_cases hj : j < acc.length
    · rw [List.getElem?_append_left (by have := h.len; omega)] at hx
      rw [List.getElem?_append_left hj] at hy
      exact keep _ _ ((h.lie j x y hx hy).below hb)
    · obtain ⟨hj2, _⟩ := List.getElem?_eq_some_iff.1 hy
      simp at hj2
      obtain rfl : j = acc.length := by omega
      rw [List.getElem?_append_right (by omega)] at hy
      rw [List.getElem?_append_right (by have := h.len; omega), h.len] at hx
      simp at hx hy
      subst hx hy
      exact keep _ _ hle
  · refine Duo.other ?_ _ (by omega) _ _
    refine Duo.grown ?_ hg (fun e => by have := hv _ e; omega)
    exact ((h.res.below hb (by omega)).alloc _).alloc _
  · exact hd3.set v'
  · have hs := hb.size
    have h1 : Below w.heap.size w ((w2.alloc o1).alloc o2) := ((h.below.trans (hb.mono (by omega))).alloc (by omega) _).alloc (by simp; omega) _
    exact (h1.grown hg (by simp; omega) (fun k hk => by have := hv k hk; omega)).setCell (p := ⟨w.heap.size + 1, 1, none⟩) (by simp) _
theorem pt_nil {l : List UInt8} (h : l = []) : ptL l = .error 0 := by unfold ptL; rw [if_pos h]
theorem pt_stars {l : List UInt8} (h : l = [42, 42]) : ptL l = .ok .stars := by unfold ptL; rw [if_neg (by rw [h]; simp), if_pos h]
theorem pt_go {l : List UInt8} (h1 : l ≠ []) (h2 : l ≠ [42, 42]) : ptL l = match ptR l 0 [] with
    | .error k => .error k
    | .ok els => .ok (.one els) := by
  unfold ptL
  rw [if_neg h1, if_neg h2]
  cases ptR l 0 [] <;> rfl
theorem pt_bad {r : Except Nat Pt} {w w' : World} {f : Nat} (hr : r = .error f) (hb : Below w.heap.size w w') : PtPost r w (.returned (.tuple #[.agg #[.bool false, .slice none 0 0], .int .i64 f])) w' :=
  ⟨⟨false, .slice none 0 0⟩, f, rfl, hb, ⟨_, _, _, rfl⟩, fun g hg => (by rw [hr] at hg; cases hg; rfl), fun x hx => by rw [hr] at hx; cases hx⟩
set_option maxRecDepth 100000 in
set_option maxHeartbeats 3200000 in
theorem readPart_any (s : ByteArray) (w : World) (he : Env w) (hs : s.size ≤ 400) :
    Calls Tryd.prog 74 #[.string s] w (PtPost (ptL s.data.toList) w) := by
  have He := Lib.hid he
  clear he
  have infoE : (Tryd.prog.info? 141).map (fun i => (i.zero, i.size, i.bytes)) = some (some (.agg #[.bool false, .bool false, .slice none 0 0]), 3, 32) := by kernel_rfl
  obtain ⟨i0, hi, hz0, hz1, hz2⟩ := info_parts infoE
  clear infoE
  by_cases h0 : s.data.toList = []
  · have hte := (empty_of h0).1
    have HF := Lib.hid (pt_nil h0)
    clear h0
    go_enter Tryd.func74, Tryd.ntmps74
    go_wp2_with fail
    refine bodyPost_ret (v := .tuple #[.agg #[.bool false, .slice none 0 0], .int .i64 0]) ?_ rfl (pt_bad HF.out ?_)
    · rw [results_cell_tmp rfl]
      go_simp
    · repeat' (first | exact Below.refl _ _ | refine Below.setCell ?_ (by simp) _ | refine Below.alloc ?_ (by simp [World.setCell] <;> omega) _)
  · have hte : s.toList.isEmpty = false := by rw [Lib.toList_data]; simpa using h0
    by_cases h2 : s.data.toList = [42, 42]
    · have HF := Lib.hid (pt_stars h2)
      have hb2 : (s.toList == [42, 42]) = true := by rw [Lib.toList_data, h2]; rfl
      clear h0 h2
      go_enter Tryd.func74, Tryd.ntmps74
      go_wp2_with fail
      refine bodyPost_ret (v := .tuple #[.agg #[.bool true, .slice none 0 0], .int .i64 (-1)]) ?_ rfl ⟨⟨true, .slice none 0 0⟩, -1, rfl, ?_, ⟨_, _, _, rfl⟩, fun f hf => (by rw [HF.out] at hf; cases hf), fun p hp => ?_⟩
      · rw [results_cell_tmp rfl]
        go_simp
      · repeat' (first | exact Below.refl _ _ | refine Below.setCell ?_ (by simp) _ | refine Below.alloc ?_ (by simp [World.setCell] <;> omega) _)
      · rw [HF.out] at hp
        cases hp
        exact ⟨rfl, rfl⟩
    · have hb2 : (s.toList == [42, 42]) = false := by rw [Lib.toList_data]; simpa using h2
      have HF := Lib.hid (pt_go h0 h2)
      clear h0 h2
      go_enter Tryd.func74, Tryd.ntmps74
      go_wp2_with fail
      go_loopw [5] (fun s5 wr => ∃ (k : Nat) (acc : List El) (v : Value) (tr : List ET), s5 = .int .i64 k ∧ PtRel s.data.toList w k acc v tr wr) (fun s5 _ => s.size - (Go.RowKit.intOf s5).toNat)
      case atStart =>
        refine ⟨0, [], .slice none 0 0, [], rfl, Nat.zero_le _, Nat.le_refl _, by rw [List.drop_zero], rfl, World.ownsRow_nil _ _ _ _, fun j t e h => by simp at h, Duo.alloc (heap_alloc_new _ _) _, new_at (by simp), ((Below.refl _ _).alloc (Nat.le_refl _) _).alloc (by simp) _⟩
      case round =>
        obtain ⟨k, acc, v, tr, rfl, hr⟩ := hrel
        have Hr := Lib.hid hr
        obtain ⟨ao, cc, hv, _⟩ := owns_view hr.own
        subst hv
        obtain ⟨e0, e1, f0, f1⟩ := hr.el.cells
        obtain ⟨g0, g1, k0, k1⟩ := hr.res.cells
        have hlt := hr.el.lt
        have hkl : k ≤ s.size := by rw [Lib.size_eq]; exact hr.le
        have hfew := hr.few
        clear hr
        by_cases hk : k < s.size
        · have hz : (k : Int) < s.size := by omega
          have hkz : (k : Int) ≤ s.size := by omega
          have hsz : (s.extract k s.size).size ≤ 400 ∧ 1 ≤ (s.extract k s.size).size := by rw [ByteArray.size_extract]; omega
          have cE := readElement_any (s.extract k s.size) wr (He.out.below Hr.out.below) hsz.1 hsz.2
          rw [drop_data] at cE
          have HN := Lib.hid (fun (w2 w3 : World) (o1 o2 : Obj) (v' : Value) (t : ET) (e : El) (n : Nat) => Hr.out.next (w2 := w2) (w3 := w3) (o1 := o1) (o2 := o2) (v' := v') (t := t) (e := e) (n := n) (by rw [← Lib.size_eq]; exact hk))
          have hbound : ∀ e n, elL (s.data.toList.drop k) = some (e, n) → 1 ≤ n ∧ k + n ≤ s.size := fun e n h => by
            have := elL_le (l := s.data.toList.drop k) (by intro e; have := congrArg List.length e; rw [List.length_drop, ← Lib.size_eq] at this; simp at this; omega) h
            rw [List.length_drop, ← Lib.size_eq] at this
            omega
          have hstep : ptR (s.data.toList.drop k) k acc = match elL (s.data.toList.drop k) with
              | none => .error k
              | some (e, n) => ptR ((s.data.toList.drop k).drop n) (k + n) (acc ++ [e]) := ptR_step (by intro e; have := congrArg List.length e; rw [List.length_drop, ← Lib.size_eq] at this; simp at this; omega) k acc
          generalize elL (s.data.toList.drop k) = E at cE HN hbound hstep
          have Hbound := Lib.hid hbound
          have Hstep := Lib.hid hstep
          clear hbound hstep hsz
          go_wp2_with fail
          refine cE.mono ?_
          rintro e w2 ⟨t, n, rfl, hb2, ⟨a, j, c, hv⟩, hn, hy⟩
          obtain ⟨m, nn, tv⟩ := t
          simp only at hv
          subst hv
          have hs2 := hb2.size
          unfold elV
          cases E with
          | none =>
            obtain rfl := hn rfl
            have hpt : Hid (ptL s.data.toList = .error k) := Lib.hid (by
              have h1 := Hstep.out
              rw [Hr.out.go] at h1
              rw [HF.out, h1])
            have ht2 := Hr.out.res.below hb2 (by omega)
            obtain ⟨g0, g1, k0, k1⟩ := ht2.cells
            have hlt2 := ht2.lt
            have Hb2 : Hid (Below w.heap.size w w2) := Lib.hid (Hr.out.below.trans (hb2.mono (by omega)))
            have hs2w : w.heap.size ≤ w2.heap.size := by omega
            clear hb2 cE ht2 hn hy
            go_wp2_with fail
            refine bodyPost_ret (v := .tuple #[.agg #[.bool false, .slice none 0 0], .int .i64 k]) ?_ rfl (pt_bad hpt.out ?_)
            · rw [results_cell_tmp rfl]
              go_simp
            · repeat' (first | exact Hb2.out | refine Below.setCell ?_ (by simp) _ | refine Below.alloc ?_ (by simp [World.setCell] <;> omega) _)
          | some x =>
            obtain ⟨el, n'⟩ := x
            obtain ⟨hk1, hle⟩ := hy (el, n') rfl
            simp only at hk1 hle
            subst hk1
            obtain ⟨hn1, hn2⟩ := Hbound.out el n rfl
            have hnz : ¬ ((n : Nat) : Int) = 0 := by omega
            have ht2 := Hr.out.el.below hb2 (by omega)
            obtain ⟨g0, g1, k0, k1⟩ := ht2.cells
            have hlt2 := ht2.lt
            have HO := Lib.hid (owns_below Hr.out.own hb2)
            have Hb2 := Lib.hid hb2
            have HT2 := Lib.hid ht2
            have Hle := Lib.hid hle
            have hown1 : ∀ k, (Value.slice ao acc.length cc).ownBlock = some k → w.heap.size + 2 ≤ k := fun k hk => (Hr.out.own.lt k hk).1
            have Hown1 := Lib.hid hown1
            have hal : acc.length ≤ 400 := by omega
            have hsum : (k : Int) + n ≤ 400 := by omega
            clear hb2 cE ht2 hown1 hn hy hle
            go_wp2_with (first | (at_builtin; refine wpList_append_own _ rfl _ _ 117 rfl (w.heap.size + 2) 141 i0 (.agg #[.bool false, .bool false, .slice none 0 0]) 3 32 Tryd.underlying117 hi hz0 hz1 hz2 rfl (by decide) _ _ _ rfl ((HO.out.alloc _).alloc _) ⟨w2.heap.size + 1, 0, none⟩ 1 1 [.bool m, .bool nn, .slice a j c] rfl rfl (by have := one_el (w2.alloc (.cells #[.bool m, .bool nn, .slice a j c] 141)) (.bool m) (.bool nn) (.slice a j c); simpa using this) (fun y hy => by simp at hy; rcases hy with rfl | rfl | rfl <;> rfl) (by unfold maxLen; omega) (by omega) (by simp; omega) ?_; intro v' w3 hown3 hgrow3 hnil3; obtain ⟨ao3, cc3, hv3, _⟩ := owns_view hown3; subst hv3; have ht3 := Lib.hid (((HT2.out.alloc _).alloc _).grown hgrow3 (fun e => by have := Hown1.out _ e; omega)); obtain ⟨g0, g1, k0, k1⟩ := ht3.out.cells; have Hown3 := Lib.hid hown3; have Hgrow3 := Lib.hid hgrow3; clear hown3 hgrow3 hnil3))
            go_roundw
            case rel => exact ⟨k + n, _, _, _, by go_num, HN.out w2 w3 _ _ _ ⟨m, nn, .slice a j c⟩ el n rfl Hb2.out Hle.out Hown3.out Hgrow3.out⟩
            case measure => simp [Go.RowKit.intOf]; omega
        · have hz : ¬ (k : Int) < s.size := by omega
          have hpt : Hid (ptL s.data.toList = .ok (.one acc)) := Lib.hid (by
            have h1 := Hr.out.go
            rw [List.drop_eq_nil_of_le (by rw [← Lib.size_eq]; omega), ptR_nil] at h1
            rw [HF.out, ← h1])
          go_wp2_with fail
          refine bodyPost_ret (v := .tuple #[.agg #[.bool false, .slice ao acc.length cc], .int .i64 (-1)]) ?_ rfl ⟨⟨false, .slice ao acc.length cc⟩, -1, rfl, below2 Hr.out.below (Nat.le_refl _) _ _, ⟨_, _, _, rfl⟩, fun f hf => (by rw [hpt.out] at hf; cases hf), fun p hp => ?_⟩
          · rw [results_cell_tmp rfl]
            go_simp
          · rw [hpt.out] at hp
            cases hp
            refine ⟨rfl, rfl, ?_⟩
            have hL : LEls wr (.slice ao acc.length cc) acc := ⟨tr, Hr.out.len, owns_base Hr.out.own 0 (Nat.zero_le _), Hr.out.lie⟩
            exact hL.kept (T := 119) (by decide) (by decide) (Hr.out.res.others2 _ _)
end GR
end Go.Proofs.YtechekdiadpmoaaDoor
