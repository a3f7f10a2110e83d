/- Layer 2: the contracts of takes, takeRune, passMany, fits: whether elements match a name. -/
import Derived.Test.YtechekdiadpmoaaDoorQGlobMem
import Derived.IntWalk
import Derived.Shelf.Small.Wraps
set_option linter.all false
set_option maxRecDepth 100000
set_option maxHeartbeats 25600000
namespace Go.Proofs.YtechekdiadpmoaaDoor
open Go.RowKit Go.Lib
namespace GF
open GP GM

def hit (sp : List Sp) (r : Nat) : Bool := sp.any fun s => decide (s.1 ≤ r) && decide (r ≤ s.2)
theorem hit_yes {sp : List Sp} {r k : Nat} {s : Sp} (hs : sp[k]? = some s) (h : s.1 ≤ r ∧ r ≤ s.2) : hit sp r = true := by
  unfold hit
  rw [List.any_eq_true]
  exact ⟨s, List.mem_of_getElem? hs, by simp [h.1, h.2]⟩
theorem hit_no {sp : List Sp} {r k : Nat} {s : Sp} (hh : hit (sp.take k) r = false) (hs : sp[k]? = some s) (h : ¬ (s.1 ≤ r ∧ r ≤ s.2)) : hit (sp.take (k + 1)) r = false := by
  rw [List.take_add_one, hs]
  unfold hit at hh ⊢
  simp only [Option.toList_some, List.any_append, hh, List.any_cons, List.any_nil, Bool.or_false, Bool.false_or]
  simp only [Bool.and_eq_false_iff, decide_eq_false_iff_not]
  by_cases h1 : s.1 ≤ r
  · exact .inr fun h2 => h ⟨h1, h2⟩
  · exact .inl h1
set_option maxHeartbeats 800000 in
theorem takes_set (t : ET) (sp : List Sp) (r : Nat) (w : World) (h : LSp w t.v sp) :
    Calls Tryd.prog 143 #[elV t, .int .i32 r] w fun e w' => e = .returned (.bool (hit sp r != t.n)) ∧ Below w.heap.size w w' := by
  obtain ⟨m, n, v⟩ := t
  unfold elV
  obtain ⟨ao, c, hv, hcell⟩ := owns_view h
  have hlen := owns_len h
  simp only at hv hcell hlen h
  subst hv
  have Hc := Lib.hid hcell
  clear hcell h
  unfold maxLen at hlen
  go_enter Tryd.func143, Tryd.ntmps143
  go_wp2
  go_loopw [10] (fun i wr => ∃ k : Nat, k ≤ sp.length ∧ i = .int .i64 k ∧ hit (sp.take k) r = false ∧ Below (w.heap.size + 1) (w.alloc (.cells #[.bool m, .bool n, .slice ao sp.length c] 141)) wr) (fun i _ => sp.length - (Go.RowKit.intOf i).toNat)
  case atStart => exact ⟨0, Nat.zero_le _, rfl, rfl, Below.refl _ _⟩
  case round =>
    obtain ⟨k, hk, rfl, hh, hb⟩ := hrel
    have Hh := Lib.hid hh
    have Hb := Lib.hid hb
    have hn : wr.cell? ⟨w.heap.size, 1, none⟩ = some (.bool n) := by
      rw [hb.cell (p := ⟨w.heap.size, 1, none⟩) (by simp)]
      exact World.cell?_alloc_at _ _ _ _ rfl
    have hsz : w.heap.size < wr.heap.size := by have := hb.size; simp at this; omega
    clear hh hb
    by_cases hlt : k < sp.length
    · obtain ⟨g, rfl, hg1, _, hg2⟩ := Hc.out (by omega)
      obtain ⟨s, hs⟩ : ∃ s, sp[k]? = some s := ⟨sp[k], List.getElem?_eq_getElem hlt⟩
      obtain ⟨c1, c2⟩ := flat2 (fun s : Sp => Value.int .i32 (s.1 : Nat)) (fun s : Sp => Value.int .i32 (s.2 : Nat)) sp k s hs
      have h1 : wr.cell? ⟨g, k * 2, none⟩ = some (.int .i32 s.1) := by
        rw [Hb.out.cell (p := ⟨g, k * 2, none⟩) (by simp; omega), World.cell?_alloc_past _ _ _ hg1, hg2 _ (by omega)]
        exact c1
      have h2 : wr.cell? ⟨g, k * 2 + 1, none⟩ = some (.int .i32 s.2) := by
        rw [Hb.out.cell (p := ⟨g, k * 2 + 1, none⟩) (by simp; omega), World.cell?_alloc_past _ _ _ hg1, hg2 _ (by omega)]
        exact c2
      have hz : (k : Int) < sp.length := by omega
      have hend : Below w.heap.size w (wr.alloc (.cells #[.int .i32 s.1, .int .i32 s.2] 168)) := (((Below.refl _ _).alloc (Nat.le_refl _) _).trans (Hb.out.mono (by omega))).alloc (by omega) _
      have hgo : Below (w.heap.size + 1) (w.alloc (.cells #[.bool m, .bool n, .slice (some ⟨g, 0, none⟩) sp.length c] 141)) (wr.alloc (.cells #[.int .i32 s.1, .int .i32 s.2] 168)) := Hb.out.alloc (by omega) _
      have Hend := Lib.hid hend
      have Hgo := Lib.hid hgo
      have Hs := Lib.hid hs
      clear c1 c2 hs hend hgo
      by_cases hin : s.1 ≤ r ∧ r ≤ s.2
      · have HF := Lib.hid (hit_yes Hs.out hin)
        obtain ⟨i1, i2⟩ := hin
        have j1 : (s.1 : Int) ≤ r := by omega
        have j2 : (r : Int) ≤ s.2 := by omega
        clear i1 i2
        go_wp2
        go_ret
        exact ⟨by rw [HF.out]; cases n <;> rfl, Hend.out⟩
      · have HF := Lib.hid (hit_no Hh.out Hs.out hin)
        by_cases j1 : (s.1 : Int) ≤ r
        · have j2 : ¬ (r : Int) ≤ s.2 := fun e => hin ⟨by omega, by omega⟩
          clear hin
          go_wp2
          go_roundw
          case rel => exact ⟨k + 1, by omega, by go_num, HF.out, Hgo.out⟩
          case measure => simp [Go.RowKit.intOf]; omega
        · clear hin
          go_wp2
          go_roundw
          case rel => exact ⟨k + 1, by omega, by go_num, HF.out, Hgo.out⟩
          case measure => simp [Go.RowKit.intOf]; omega
    · have hz : ¬ (k : Int) < sp.length := by omega
      have ek : sp.take k = sp := List.take_of_length_le (by omega)
      have HF : Hid (hit sp r = false) := Lib.hid (by rw [← ek]; exact Hh.out)
      clear ek
      go_wp2
      go_ret
      exact ⟨by rw [HF.out]; cases n <;> rfl, ((Below.refl _ _).alloc (Nat.le_refl _) _).trans (Hb.out.mono (by omega))⟩
theorem takes_any (t : ET) (e : El) (r : Nat) (w : World) (h : LEl w t e) :
    Calls Tryd.prog 143 #[elV t, .int .i32 r] w fun x w' => x = .returned (.bool (takesL e r)) ∧ Below w.heap.size w w' := by
  cases e with
  | star =>
    have h0 : t = ⟨true, false, .slice none 0 0⟩ := h
    have hc := takes_set t [] r w (by rw [h0]; exact World.ownsRow_nil _ _ _ _)
    rw [h0] at hc ⊢
    exact hc
  | set neg sp =>
    obtain ⟨_, h2, h3⟩ := h
    have hc := takes_set t sp r w h3
    rw [h2] at hc
    exact hc

/- passMany: what is reached behind an element that may stand for nothing -/
def isStar : Option El → Bool
  | some .star => true
  | _ => false
def bo (R : List Bool) (k : Nat) : Bool := R[k]?.getD false
def passN (els : List El) (R : List Bool) : Nat → List Bool
  | 0 => R
  | k + 1 => if (isStar els[k]? && bo (passN els R k) k) = true then (passN els R k).set (k + 1) true else passN els R k
theorem passN_length (els : List El) (R : List Bool) : ∀ k, (passN els R k).length = R.length
  | 0 => rfl
  | k + 1 => by
    unfold passN
    split
    · rw [List.length_set, passN_length els R k]
    · exact passN_length els R k
def boCells (R : List Bool) : List Value := R.map Value.bool
theorem star_eq {w : World} {t : ET} {e : El} (h : LEl w t e) : t.m = isStar (some e) := by
  cases e with
  | star => have h0 : t = ⟨true, false, .slice none 0 0⟩ := h; rw [h0]; rfl
  | set neg sp => exact h.1
theorem bo_cell {R : List Bool} {k : Nat} (h : k < R.length) : (boCells R)[k]? = some (.bool (bo R k)) := by
  unfold boCells bo
  rw [List.getElem?_map, List.getElem?_eq_getElem h]
  rfl
theorem boCells_set (R : List Bool) (k : Nat) (b : Bool) : (boCells R).set k (.bool b) = boCells (R.set k b) := by
  unfold boCells
  rw [List.map_set]
/-- What a round leaves of the world: the row holds R; nothing but the row has turned. -/
structure Rowed (B g n c : Nat) (w : World) (R : List Bool) (w' : World) : Prop where
  len : R.length = n
  own : w'.ownsRow B 4 1 (.slice (some ⟨g, 0, none⟩) n c) n (boCells R)
  below : Below B w w'
  others : OthersKept 4 none w w'
theorem Rowed.alloc {B g n c : Nat} {w : World} {R : List Bool} {w' : World} (h : Rowed B g n c w R w') (hB : B ≤ w'.heap.size) (o : Obj) : Rowed B g n c w R (w'.alloc o) :=
  ⟨h.len, h.own.alloc o, h.below.alloc hB o, h.others.alloc o⟩
theorem Rowed.step {B g n c : Nat} {w : World} {R : List Bool} {w' w2 : World} (h : Rowed B g n c w R w') (hB : B ≤ w'.heap.size) (hb : Below w'.heap.size w' w2) : Rowed B g n c w R w2 :=
  ⟨h.len, owns_below h.own hb, h.below.trans (hb.mono hB), h.others.trans (below_others hb _ _)⟩
theorem Rowed.set {B g n c : Nat} {w : World} {R : List Bool} {w' : World} (h : Rowed B g n c w R w') (k : Nat) (b : Bool) :
    Rowed B g n c w (R.set k b) (w'.setCell ⟨g, k, none⟩ (.bool b)) := by
  obtain ⟨h1, h2⟩ := h.own.stored k (.bool b)
  rw [boCells_set] at h1
  have hg := h.own.lt g rfl
  exact ⟨by rw [List.length_set]; exact h.len, h1, h.below.setCell (p := ⟨g, k, none⟩) hg.1 _, h.others.grown h2 (by
    intro k hk
    exact owns_kind h.own k hk)⟩
set_option maxHeartbeats 1600000 in
theorem passMany_any (ve : Value) (els : List El) (B g c : Nat) (R : List Bool) (w : World) (he : LEls w ve els) (hl : R.length = els.length + 1) (hm : els.length + 1 ≤ maxLen)
    (ho : w.ownsRow B 4 1 (.slice (some ⟨g, 0, none⟩) (els.length + 1) c) (els.length + 1) (boCells R)) :
    Calls Tryd.prog 126 #[ve, .slice (some ⟨g, 0, none⟩) (els.length + 1) c] w fun x w' => x = .returned (.tuple #[]) ∧ Rowed B g (els.length + 1) c w (passN els R els.length) w' := by
  obtain ⟨hml, ao, ce, rfl⟩ := he.val
  have He := Lib.hid he
  have Hl := Lib.hid hl
  have hB := (ho.lt g rfl).1
  have hgs := (ho.lt g rfl).2
  have H0 : Hid (Rowed B g (els.length + 1) c w R w) := Lib.hid ⟨hl, ho, Below.refl _ _, OthersKept.refl _ _ _⟩
  clear he hl ho
  unfold maxLen at hm hml
  go_enter Tryd.func126, Tryd.ntmps126
  go_wp2
  go_loopw [8] (fun i wr => ∃ k : Nat, k ≤ els.length ∧ i = .int .i64 k ∧ Rowed B g (els.length + 1) c w (passN els R k) wr) (fun i _ => els.length - (Go.RowKit.intOf i).toNat)
  case atStart => exact ⟨0, Nat.zero_le _, rfl, H0.out⟩
  case round =>
    obtain ⟨k, hk, rfl, hr⟩ := hrel
    have Hr := Lib.hid hr
    have hsz : w.heap.size ≤ wr.heap.size := hr.below.size
    clear hr
    by_cases hlt : k < els.length
    · obtain ⟨e, hek⟩ : ∃ e, els[k]? = some e := ⟨els[k], List.getElem?_eq_getElem hlt⟩
      obtain ⟨ge, m, nn, a, j, cc, rfl, hge, h1, h2, h3, hle⟩ := (He.out.kept (T := 4) (by decide) (by decide) Hr.out.others).at hek
      have hz : (k : Int) < els.length := by omega
      have hb1 : wr.cell? ⟨g, k, none⟩ = some (.bool (bo (passN els R k) k)) := by
        rw [Hr.out.own.cellAt k (by omega)]
        exact bo_cell (by rw [passN_length]; have := Hl.out; omega)
      have hfr : wr.frozen? ⟨g, k + 1, none⟩ = false := Hr.out.own.frozenAt _
      have hb2 : wr.cell? ⟨g, k + 1, none⟩ = some (.bool (bo (passN els R k) (k + 1))) := by
        rw [Hr.out.own.cellAt (k + 1) (by omega)]
        exact bo_cell (by rw [passN_length]; have := Hl.out; omega)
      have hst : m = isStar (some e) := star_eq hle
      have Hst := Lib.hid hst
      have Hek := Lib.hid hek
      clear hst hle hek
      have HA := Lib.hid (Hr.out.alloc (by omega) (.cells #[.bool m, .bool nn, .slice a j cc] 141))
      have hg2 : g < wr.heap.size := by omega
      have hrest : isStar els[k]? = m := by rw [Hek.out]; exact Hst.out.symm
      have Hrest := Lib.hid hrest
      clear hrest
      cases m
      · have HF : Hid (passN els R (k + 1) = passN els R k) := Lib.hid (by
          show (if _ then _ else _) = _
          rw [Hrest.out]; rfl)
        go_wp2
        go_roundw
        case rel => exact ⟨k + 1, by omega, by go_num, by rw [HF.out]; exact HA.out⟩
        case measure => simp [Go.RowKit.intOf]; omega
      · obtain ⟨b, hbb⟩ : ∃ b, bo (passN els R k) k = b := ⟨_, rfl⟩
        rw [hbb] at hb1
        have Hbb := Lib.hid hbb
        clear hbb
        cases b
        · have HF : Hid (passN els R (k + 1) = passN els R k) := Lib.hid (by
            show (if _ then _ else _) = _
            rw [Hrest.out, Hbb.out]; rfl)
          go_wp2
          go_roundw
          case rel => exact ⟨k + 1, by omega, by go_num, by rw [HF.out]; exact HA.out⟩
          case measure => simp [Go.RowKit.intOf]; omega
        · have HF : Hid (passN els R (k + 1) = (passN els R k).set (k + 1) true) := Lib.hid (by
            show (if _ then _ else _) = _
            rw [Hrest.out, Hbb.out]; rfl)
          have HS := Lib.hid ((Hr.out.set (k + 1) true).alloc (by simp [World.setCell]; omega) (.cells #[.bool true, .bool nn, .slice a j cc] 141))
          go_wp2
          go_roundw
          case rel => exact ⟨k + 1, by omega, by go_num, by rw [HF.out]; exact HS.out⟩
          case measure => simp [Go.RowKit.intOf]; omega
    · have hz : ¬ (k : Int) < els.length := by omega
      have ek : k = els.length := by omega
      subst ek
      go_wp2
      refine GM.end0 rfl rfl ?_
      exact ⟨rfl, Hr.out⟩
/- takeRune: from the last place to the first -/
def comesL : Option El → Nat → Bool
  | some e, r => takesL e r
  | none, _ => false
def takeAt (els : List El) (R : List Bool) (r : Nat) (k : Nat) : Bool :=
  (isStar els[k]? && bo R k) || (match k with
    | 0 => false
    | j + 1 => bo R j && comesL els[j]? r)
/-- The places from k on are brought over the rune. -/
def takeN (els : List El) (R : List Bool) (r : Nat) (k : Nat) : List Bool := R.take k ++ ((List.range' k (R.length - k)).map (takeAt els R r))
theorem takeN_length (els : List El) (R : List Bool) (r k : Nat) (h : k ≤ R.length) : (takeN els R r k).length = R.length := by
  unfold takeN
  simp
  omega
theorem takeN_last (els : List El) (R : List Bool) (r : Nat) : takeN els R r R.length = R := by simp [takeN]
theorem takeN_low (els : List El) (R : List Bool) (r k j : Nat) (h : j < k) (hk : k ≤ R.length) : bo (takeN els R r k) j = bo R j := by
  unfold bo takeN
  rw [List.getElem?_append_left (by simp; omega), List.getElem?_take, if_pos h]
theorem takeN_step (els : List El) (R : List Bool) (r k : Nat) (h : k < R.length) : (takeN els R r (k + 1)).set k (takeAt els R r k) = takeN els R r k := by
  unfold takeN
  rw [List.set_append_left _ _ (by simp; omega)]
  have e1 : R.length - k = (R.length - (k + 1)) + 1 := by omega
  have e2 : R.take (k + 1) = R.take k ++ [R[k]] := by rw [List.take_succ_eq_append_getElem h]
  have e3 : (R.take k ++ [R[k]]).set k (takeAt els R r k) = R.take k ++ [takeAt els R r k] := by
    rw [List.set_append_right _ _ (by simp; omega)]
    have : k - (R.take k).length = 0 := by simp; omega
    rw [this]
    rfl
  rw [e1, List.range'_succ, List.map_cons, e2, e3, List.append_assoc]
  rfl
def StepPost (els : List El) (R : List Bool) (r : Nat) (B g c : Nat) (w : World) (x : Ending) (w' : World) : Prop := x = .returned (.tuple #[]) ∧ Rowed B g (els.length + 1) c w (takeN els R r 0) w'
end GF
end Go.Proofs.YtechekdiadpmoaaDoor
