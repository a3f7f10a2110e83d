/- Layer 2: the contract of readBrackets. -/
import Derived.Test.YtechekdiadpmoaaDoorQGlobRead
set_option linter.all false
set_option maxRecDepth 100000
set_option maxHeartbeats 25600000
namespace Go.Proofs.YtechekdiadpmoaaDoor
open Go.RowKit Go.Lib
namespace GR
open GP GM NF

/-- An element that a call hands back, and how long it is; 0: it is faulty. -/
def ElPost (r : Option (El × Nat)) (w : World) (e : Ending) (w' : World) : Prop :=
  ∃ (t : ET) (k : Nat), e = .returned (.tuple #[elV t, .int .i64 k]) ∧ Below w.heap.size w w' ∧ (∃ a n c, t.v = .slice a n c) ∧ (r = none → k = 0) ∧ (∀ x, r = some x → k = x.2 ∧ LEl w' t x.1)
/-- A block of three cells. -/
def Tri (w : World) (b : Nat) (m n : Bool) (v : Value) : Prop := w.heap[b]? = some (.cells #[.bool m, .bool n, v] 141 (0, 0))
theorem Tri.cells {w : World} {b : Nat} {m n : Bool} {v : Value} (h : Tri w b m n v) : w.cell? ⟨b, 0, none⟩ = some (.bool m) ∧ w.cell? ⟨b, 1, none⟩ = some (.bool n) ∧ w.cell? ⟨b, 2, none⟩ = some v ∧ w.frozen? ⟨b, 0, none⟩ = false ∧ w.frozen? ⟨b, 1, none⟩ = false ∧ w.frozen? ⟨b, 2, none⟩ = false :=
  ⟨cell_of_row w b 0 _ _ _ h, cell_of_row w b 1 _ _ _ h, cell_of_row w b 2 _ _ _ h, frozen_of_row w b 0 _ _ h, frozen_of_row w b 1 _ _ h, frozen_of_row w b 2 _ _ h⟩
theorem Tri.lt {w : World} {b : Nat} {m n : Bool} {v : Value} (h : Tri w b m n v) : b < w.heap.size := (Array.getElem?_eq_some_iff.1 h).1
theorem Tri.below {w w' : World} {b : Nat} {m n : Bool} {v : Value} (h : Tri w b m n v) {B : Nat} (hb : Below B w w') (hB : b < B) : Tri w' b m n v := by
  unfold Tri
  rw [hb.block b hB]
  exact h
theorem Tri.alloc {w : World} {b : Nat} {m n : Bool} {v : Value} (h : Tri w b m n v) (o : Obj) : Tri (w.alloc o) b m n v :=
  h.below (B := b + 1) ((Below.refl _ _).alloc h.lt o) (by omega)
theorem Tri.grown {w w' : World} {b : Nat} {m n : Bool} {v : Value} (h : Tri w b m n v) {row : Option Nat} (hg : w.grownBy w' row) (hr : row ≠ some b) : Tri w' b m n v := by
  unfold Tri
  rw [hg.block b h.lt (Ne.symm hr)]
  exact h
theorem Tri.set {w : World} {b : Nat} {m n : Bool} {v : Value} (h : Tri w b m n v) (u : Value) : Tri (w.setCell ⟨b, 2, none⟩ u) b m n u := by
  unfold Tri
  rw [heap_setCell_same w b 2 _ _ u h]
  rfl
theorem Tri.other {w : World} {b : Nat} {m n : Bool} {v : Value} (h : Tri w b m n v) (b' : Nat) (hb : b ≠ b') (j : Nat) (u : Value) : Tri (w.setCell ⟨b', j, none⟩ u) b m n v := by
  unfold Tri
  rw [Below.heap_setCell _ _ _ _ hb]
  exact h
theorem owns_set {w : World} {base e size : Nat} {v : Value} {n : Nat} {xs : List Value} (h : w.ownsRow base e size v n xs) (p : Addr) (hp : p.block < base) (u : Value) : (w.setCell p u).ownsRow base e size v n xs := by
  refine ⟨h.1, ?_⟩
  rcases h.2 with hn | ⟨g, cap, cur, rfl, hb', hgg, rest⟩
  · exact .inl hn
  · exact .inr ⟨g, cap, cur, rfl, hb', by rw [Below.heap_setCell _ _ _ _ (by omega)]; exact hgg, rest⟩
theorem one_span (w : World) (a b : Value) : ∀ j u, [a, b][j]? = some u → (w.alloc (.cells #[a, b] 168)).cell? ((⟨w.heap.size, 0, none⟩ : Addr).add j) = some u := by
  intro j u hj
  match j, hj with
  | 0, hj => simp at hj; subst hj; exact World.cell?_alloc_at _ _ _ _ rfl
  | 1, hj => simp at hj; subst hj; exact World.cell?_alloc_at _ _ _ _ rfl
  | j + 2, hj => simp at hj
/-- What a round of readBrackets leaves. -/
structure BrRel (s0 : Nat) (l0 : List UInt8) (neg : Bool) (w : World) (u : ByteArray) (acc : List Sp) (v : Value) (wr : World) : Prop where
  size : u.size + acc.length ≤ s0
  go : brR u.data.toList acc = brR l0 []
  own : wr.ownsRow (w.heap.size + 2) 168 2 v acc.length (spCells acc)
  res : Tri wr w.heap.size false false (.slice none 0 0)
  el : Tri wr (w.heap.size + 1) false neg v
  below : Below w.heap.size w wr
theorem BrRel.next {s0 : Nat} {l0 : List UInt8} {neg : Bool} {w : World} {u : ByteArray} {acc : List Sp} {v : Value} {wr w2 w3 : World} {o1 o2 : Obj} {v' : Value} {x : UInt8} {r : List UInt8}
    (h : BrRel s0 l0 neg w u acc v wr) (hu : u.data.toList = x :: r) (hx : x ≠ 93) (hb : Below wr.heap.size wr w2) (hz : (spanL u.data.toList).2 ≠ 0)
    (hown : w3.ownsRow (w.heap.size + 2) 168 2 v' (acc.length + 1) (spCells acc ++ [.int .i32 (spanL u.data.toList).1.1, .int .i32 (spanL u.data.toList).1.2])) (hg : ((w2.alloc o1).alloc o2).grownBy w3 v.ownBlock) :
    BrRel s0 l0 neg w (u.extract (spanL u.data.toList).2 u.size) (acc ++ [(spanL u.data.toList).1]) v' (w3.setCell ⟨w.heap.size + 1, 2, none⟩ v') := by
  have hlt := h.el.lt
  have hv : ∀ k, v.ownBlock = some k → w.heap.size + 2 ≤ k := fun k hk => (h.own.lt k hk).1
  have hle := spanL_le u.data.toList
  rw [← Lib.size_eq] at hle
  refine ⟨?_, ?_, ?_, ?_, ?_, ?_⟩
  · have := h.size
    rw [ByteArray.size_extract, List.length_append]
    simp only [List.length_cons, List.length_nil]
    omega
  · rw [drop_data, ← h.go, brR_step (l := u.data.toList) (by rw [hu]; simp) (by rw [hu]; simp [hx]), if_neg hz]
  · refine owns_set ?_ _ (by simp) _
    have e : (acc ++ [(spanL u.data.toList).1]).length = acc.length + 1 := by simp
    rw [e]
    unfold spCells at hown ⊢
    rw [flat_snoc]
    exact hown
  · refine Tri.other ?_ _ (by omega) _ _
    refine Tri.grown ?_ hg (fun e => by have := hv _ e; omega)
    exact ((h.res.below hb (by omega)).alloc _).alloc _
  · refine Tri.set (v := v) ?_ _
    refine Tri.grown ?_ hg (fun e => by have := hv _ e; omega)
    exact ((h.el.below hb (by omega)).alloc _).alloc _
  · have hs := hb.size
    have h1 : Below w.heap.size w ((w2.alloc o1).alloc o2) := ((h.below.trans (hb.mono (by omega))).alloc (by omega) _).alloc (by simp; omega) _
    exact (h1.grown hg (by simp; omega) (fun k hk => by have := hv k hk; omega)).setCell (p := ⟨w.heap.size + 1, 2, none⟩) (by simp) _
theorem below3 {B : Nat} {w wr : World} (h : Below B w wr) {b : Nat} (hB : B ≤ b) (x y z : Value) : Below B w (((wr.setCell ⟨b, 0, none⟩ x).setCell ⟨b, 1, none⟩ y).setCell ⟨b, 2, none⟩ z) :=
  ((h.setCell (p := ⟨b, 0, none⟩) hB _).setCell (p := ⟨b, 1, none⟩) hB _).setCell (p := ⟨b, 2, none⟩) hB _
theorem bad_post {r : Option (El × Nat)} {w w' : World} (hr : r = none) (hb : Below w.heap.size w w') : ElPost r w (.returned (.tuple #[.agg #[.bool false, .bool false, .slice none 0 0], .int .i64 0])) w' :=
  ⟨⟨false, false, .slice none 0 0⟩, 0, rfl, hb, ⟨_, _, _, rfl⟩, fun _ => rfl, fun x hx => by rw [hr] at hx; cases hx⟩
def strLen : Value → Nat
  | .string u => u.size
  | _ => 0
theorem neg_byte {x c : UInt8} (h : x ≠ c) : (!(((x.toNat : Nat) : Int) == (c.toNat : Int))) = true := by rw [byte_no h]; rfl
set_option maxRecDepth 100000 in
set_option maxHeartbeats 3200000 in
theorem readBrackets_any (s : ByteArray) (w : World) (he : Env w) (hs : s.size ≤ 400) (h1 : 1 ≤ s.size) :
    Calls Tryd.prog 124 #[.string s] w (ElPost (brL s.data.toList) w) := by
  have He := Lib.hid he
  clear he
  have infoS : (Tryd.prog.info? 168).map (fun i => (i.zero, i.size, i.bytes)) = some (some (.agg #[.int .i32 0, .int .i32 0]), 2, 8) := by kernel_rfl
  obtain ⟨i0, hi, hz0, hz1, hz2⟩ := info_parts infoS
  clear infoS
  have h1z : (1 : Int) ≤ s.size := by omega
  have cC := cut_one (s.extract 1 s.size) 33 (w.alloc (.cells #[.bool false, .bool false, .slice none 0 0] 141))
  rw [drop_data, List.drop_one] at cC
  obtain ⟨neg, hneg⟩ : ∃ b : Bool, decide (s.data.toList.tail.head? = some 33) = b := ⟨_, rfl⟩
  have hin : Hid (brIn s.data.toList = if s.data.toList.tail.head? = some 33 then s.data.toList.tail.tail else s.data.toList.tail) := Lib.hid rfl
  have Hneg : Hid ((s.data.toList.tail.head? == some 33) = neg) := Lib.hid (by
    rw [← hneg]
    by_cases h : s.data.toList.tail.head? = some 33
    · rw [decide_eq_true h, h]; rfl
    · rw [decide_eq_false h]; exact beq_eq_false_iff_ne.2 h)
  rw [hneg] at cC
  rw [← hin.out] at cC
  clear hneg
  go_enter Tryd.func124, Tryd.ntmps124
  go_wp2_with fail
  refine cC.mono ?_
  rintro e w1 ⟨u0, rfl, hu0, rfl⟩
  clear cC
  have hu0s : u0.size ≤ s.size - 1 := by
    rw [Lib.size_eq, hu0, Lib.size_eq s]
    exact brIn_le _
  have H0 : Hid (BrRel s.size (brIn s.data.toList) neg w u0 [] (.slice none 0 0) ((w.alloc (.cells #[.bool false, .bool false, .slice none 0 0] 141)).alloc (.cells #[.bool false, .bool neg, .slice none 0 0] 141))) := Lib.hid
    ⟨by simp; omega, by rw [hu0], World.ownsRow_nil _ _ _ _, Tri.alloc (heap_alloc_new _ _) _, by have := heap_alloc_new (w.alloc (.cells #[.bool false, .bool false, .slice none 0 0] 141)) (.cells #[.bool false, .bool neg, .slice none 0 0] 141); simpa [Tri] using this, ((Below.refl _ _).alloc (Nat.le_refl _) _).alloc (by simp) _⟩
  clear hu0
  go_wp2_with fail
  go_loopw [4] (fun s4 wr => ∃ (u : ByteArray) (acc : List Sp) (v : Value), s4 = .string u ∧ BrRel s.size (brIn s.data.toList) neg w u acc v wr) (fun s4 _ => strLen s4)
  case atStart => exact ⟨u0, [], _, rfl, H0.out⟩
  case round =>
    obtain ⟨u, acc, v, rfl, hr⟩ := hrel
    have Hr := Lib.hid hr
    obtain ⟨ao, cc, hv, _⟩ := owns_view hr.own
    subst hv
    obtain ⟨e0, e1, e2, f0, f1, f2⟩ := hr.el.cells
    obtain ⟨g0, g1, g2, k0, k1, k2⟩ := hr.res.cells
    have hlt := hr.el.lt
    have husz := hr.size
    clear hr
    cases hu : u.data.toList with
    | nil =>
      have hte := (empty_of hu).1
      have hbr : Hid (brL s.data.toList = none) := Lib.hid (by
        have := Hr.out.go
        rw [hu, brR_nil] at this
        unfold brL
        rw [← this])
      clear hu
      go_wp2_with fail
      refine bodyPost_ret (v := .tuple #[.agg #[.bool false, .bool false, .slice none 0 0], .int .i64 0]) ?_ rfl (bad_post hbr.out (below3 Hr.out.below (Nat.le_refl _) _ _ _))
      rw [results_cell_tmp rfl]
      go_simp
    | cons x r =>
      obtain ⟨hte, hp, hx⟩ := cons_of hu
      have hz : (0 : Int) < u.size := by omega
      have HU := Lib.hid hu
      clear hu
      by_cases h93 : x = 93
      · have hb93 : ((((u[0]).toNat : Nat) : Int) == 93) = true := by rw [hx]; exact byte_yes h93
        have hbr : Hid (brR (brIn s.data.toList) [] = if acc = [] then none else some (acc, u.data.toList)) := Lib.hid (by
          rw [← Hr.out.go, brR_end (by rw [HU.out, h93]; rfl)])
        clear hx h93
        by_cases hacc : acc = []
        · subst hacc
          have hbl : Hid (brL s.data.toList = none) := Lib.hid (by
            unfold brL
            rw [hbr.out]
            rfl)
          go_wp2_with fail
          refine bodyPost_ret (v := .tuple #[.agg #[.bool false, .bool false, .slice none 0 0], .int .i64 0]) ?_ rfl (bad_post hbl.out (below3 Hr.out.below (Nat.le_refl _) _ _ _))
          rw [results_cell_tmp rfl]
          go_simp
        · have hal : 0 < acc.length := List.length_pos_iff.2 hacc
          have hz2 : ¬ (acc.length : Int) = 0 := by omega
          have hbl : Hid (brL s.data.toList = some (.set neg acc, s.size - u.size + 1)) := Lib.hid (by
            unfold brL
            rw [hbr.out, if_neg hacc, Lib.size_eq, Lib.size_eq]
            simp only [Hneg.out])
          have hnum : ((s.size - u.size + 1 : Nat) : Int) = (s.size : Int) - u.size + 1 := by omega
          have Hnum := Lib.hid hnum
          have hd1 : (u.size : Int) ≤ s.size := by omega
          clear hnum hacc
          go_wp2_with fail
          refine bodyPost_ret (v := .tuple #[.agg #[.bool false, .bool neg, .slice ao acc.length cc], .int .i64 ((s.size : Int) - u.size + 1)]) ?_ rfl ⟨⟨false, neg, .slice ao acc.length cc⟩, s.size - u.size + 1, by rw [Hnum.out]; rfl, below3 Hr.out.below (Nat.le_refl _) _ _ _, ⟨_, _, _, rfl⟩, fun h => (by rw [hbl.out] at h; cases h), fun y hy => ?_⟩
          · rw [results_cell_tmp rfl]
            go_simp
          · rw [hbl.out] at hy
            cases hy
            exact ⟨rfl, rfl, rfl, owns_base (owns_set (owns_set (owns_set Hr.out.own _ (by simp) _) _ (by simp) _) _ (by simp) _) 0 (Nat.zero_le _)⟩
      · have hb93 : ((((u[0]).toNat : Nat) : Int) == 93) = false := by rw [hx]; exact byte_no h93
        have cS := readSpan_any u wr (He.out.below Hr.out.below) (by omega)
        have hsl := spanL_le u.data.toList
        rw [← Lib.size_eq] at hsl
        have HN := Lib.hid (fun (w2 w3 : World) (o1 o2 : Obj) (v' : Value) => Hr.out.next (w2 := w2) (w3 := w3) (o1 := o1) (o2 := o2) (v' := v') HU.out (fun e => h93 e))
        have HX : Hid (brR u.data.toList acc = if (spanL u.data.toList).2 = 0 then none else brR (u.data.toList.drop (spanL u.data.toList).2) (acc ++ [(spanL u.data.toList).1])) := Lib.hid (brR_step (by rw [HU.out]; simp) (by rw [HU.out]; simp [h93]) acc)
        generalize spanL u.data.toList = sp at cS hsl HN HX
        clear hx h93
        have hsz1 : (sp.2 : Int) ≤ u.size := by omega
        go_wp2_with fail
        refine cS.mono ?_
        rintro e w2 ⟨rfl, hb2⟩
        have hs2 := hb2.size
        by_cases hzs : sp.2 = 0
        · have hz0z : ((sp.2 : Nat) : Int) = 0 := by omega
          have hbl : Hid (brL s.data.toList = none) := Lib.hid (by
            have := HX.out
            rw [if_pos hzs, Hr.out.go] at this
            unfold brL
            rw [this])
          have ht2 := Hr.out.res.below hb2 (by omega)
          obtain ⟨g0, g1, g2, k0, k1, k2⟩ := ht2.cells
          have hlt2 := ht2.lt
          have Hb2 : Hid (Below w.heap.size w w2) := Lib.hid (Hr.out.below.trans (hb2.mono (by omega)))
          have hs2w : w.heap.size ≤ w2.heap.size := by omega
          clear hb2 cS ht2
          go_wp2_with fail
          refine bodyPost_ret (v := .tuple #[.agg #[.bool false, .bool false, .slice none 0 0], .int .i64 0]) ?_ rfl (bad_post hbl.out ?_)
          · rw [results_cell_tmp rfl]
            go_simp
          · repeat' (first | exact Hb2.out | refine Below.setCell ?_ (by simp) _ | refine Below.alloc ?_ (by simp [World.setCell] <;> omega) _)
        · have hz0z : ¬ ((sp.2 : Nat) : Int) = 0 := by omega
          have ht2 := Hr.out.el.below hb2 (by omega)
          obtain ⟨g0, g1, g2, k0, k1, k2⟩ := ht2.cells
          have hlt2 := ht2.lt
          have HO := Lib.hid (owns_below Hr.out.own hb2)
          have Hb2 := Lib.hid hb2
          have HT2 := Lib.hid ht2
          have hown1 : ∀ k, (Value.slice ao acc.length cc).ownBlock = some k → w.heap.size + 2 ≤ k := fun k hk => (Hr.out.own.lt k hk).1
          have Hown1 := Lib.hid hown1
          have hal : acc.length ≤ 400 := by omega
          clear hb2 cS ht2 hown1
          go_wp2_with (first | (at_builtin; refine wpList_append_own _ rfl _ _ 139 rfl (w.heap.size + 2) 168 i0 (.agg #[.int .i32 0, .int .i32 0]) 2 8 Tryd.underlying139 hi hz0 hz1 hz2 rfl (by decide) _ _ _ rfl ((HO.out.alloc _).alloc _) ⟨w2.heap.size + 1, 0, none⟩ 1 1 [.int .i32 sp.1.1, .int .i32 sp.1.2] rfl rfl (by have := one_span (w2.alloc (.cells #[.int .i32 sp.1.1, .int .i32 sp.1.2] 168)) (.int .i32 sp.1.1) (.int .i32 sp.1.2); simpa using this) (fun y hy => by simp at hy; rcases hy with rfl | rfl <;> rfl) (by unfold maxLen; omega) (by omega) (by simp; omega) ?_; intro v' w3 hown3 hgrow3 hnil3; obtain ⟨ao3, cc3, hv3, _⟩ := owns_view hown3; subst hv3; have ht3 := Lib.hid (((HT2.out.alloc _).alloc _).grown hgrow3 (fun e => by have := Hown1.out _ e; omega)); obtain ⟨g0, g1, g2, k0, k1, k2⟩ := ht3.out.cells; have Hown3 := Lib.hid hown3; have Hgrow3 := Lib.hid hgrow3; clear hown3 hgrow3 hnil3))
          go_roundw
          case rel => exact ⟨_, _, _, rfl, HN.out w2 w3 _ _ _ Hb2.out hzs Hown3.out Hgrow3.out⟩
          case measure =>
            simp only [strLen, ByteArray.size_extract]
            omega
end GR
end Go.Proofs.YtechekdiadpmoaaDoor
