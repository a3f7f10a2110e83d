/- Layer 2: the contracts of spoiltByte and readPattern. -/
import Derived.Test.YtechekdiadpmoaaDoorQGlobPt
set_option linter.all false
set_option maxRecDepth 100000
set_option maxHeartbeats 25600000
namespace Go.Proofs.YtechekdiadpmoaaDoor
open Go.RowKit Go.Lib
namespace GR
open GP GM NF

def spI : Option Nat → Int
  | none => -1
  | some k => k
def NumPost (k : Int) (w : World) (e : Ending) (w' : World) : Prop := e = .returned (.int .i64 k) ∧ Below w.heap.size w w'
set_option maxHeartbeats 1600000 in
theorem spoilt_any (s : ByteArray) (w : World) (hs : s.size ≤ 400) :
    Calls Tryd.prog 72 #[.string s] w (NumPost (spI (spR s.data.toList 0)) w) := by
  go_enter Tryd.func72, Tryd.ntmps72
  go_wp2_with fail
  go_loopw [] (fun wr => ∃ pos : Nat, wr.heap[w.heap.size]? = some (.stringIter s pos) ∧ Below w.heap.size w wr ∧ spR (s.data.toList.drop pos) pos = spR s.data.toList 0) (fun wr => s.size - wr.iterPos w.heap.size)
  case atStart => exact ⟨0, World.iter_heap w s 0, (Below.refl _ _).alloc (Nat.le_refl _) _, by rw [List.drop_zero]⟩
  case round =>
    obtain ⟨pos, hit, hb, hsp⟩ := hrel
    have Hb := Lib.hid hb
    have Hsp := Lib.hid hsp
    clear hb hsp
    by_cases hp : pos < s.size
    · have hnx : ∀ ty, (Instr.next (.pointer (some ⟨w.heap.size, 0, none⟩)) true ty).run Tryd.prog wr = _ := fun ty => Lib.run_next_any_at wr w.heap.size s pos ty hit hp
      have hwd := Lib.width_pos s pos
      have hdl := decode_le s pos
      have hpz : (pos : Int) ≤ s.size := by omega
      have hne : s.data.toList.drop pos ≠ [] := by
        intro e
        have := congrArg List.length e
        rw [List.length_drop, ← Lib.size_eq] at this
        simp at this
        omega
      have hst := spR_step hne pos
      rw [Lib.decodeL_drop, List.drop_drop, Hsp.out] at hst
      have hit2 := Lib.iterAt_heap wr w.heap.size s pos (pos + (Utf8.decode s pos).2) hit
      have Hb2 := Lib.hid (Lib.below_iterAt Hb.out (Nat.le_refl _) s (pos + (Utf8.decode s pos).2))
      have cH := Tryd.strings_HasPrefix (s.extract pos s.size) ⟨#[239, 191, 189]⟩ (wr.iterAt w.heap.size s (pos + (Utf8.decode s pos).2))
      have e0 : (ByteArray.mk #[239, 191, 189]).data.toList = [239, 191, 189] := rfl
      rw [drop_data, e0] at cH
      generalize Utf8.decode s pos = d at hnx hwd hdl hst hit2 Hb2 cH
      have Hit := Lib.hid hit
      have Hst := Lib.hid hst
      clear hne hst hit
      by_cases hv : d.1 = 65533
      · have hvz : ((d.1 : Nat) : Int) = 65533 := by omega
        go_wp2_with fail
        refine cH.mono ?_
        rintro e w2 ⟨rfl, rfl⟩
        clear cH hnx
        cases hh : Lib.hasPrefix (s.data.toList.drop pos) [239, 191, 189]
        · have HF : Hid (spR s.data.toList 0 = some pos) := Lib.hid (by rw [Hst.out, if_pos ⟨hv, hh⟩])
          go_wp2_with fail
          go_ret
          exact ⟨by rw [HF.out]; rfl, Hb2.out⟩
        · have HF : Hid (spR (s.data.toList.drop (pos + d.2)) (pos + d.2) = spR s.data.toList 0) := Lib.hid (by rw [Hst.out, if_neg (by rw [hh]; simp)])
          go_wp2_with fail
          go_roundw
          case rel => exact ⟨pos + d.2, hit2, Hb2.out, HF.out⟩
          case measure =>
            simp only [World.iterPos, Hit.out, hit2]
            omega
      · have hvz : ¬ ((d.1 : Nat) : Int) = 65533 := by omega
        have HF : Hid (spR (s.data.toList.drop (pos + d.2)) (pos + d.2) = spR s.data.toList 0) := Lib.hid (by rw [Hst.out, if_neg (fun h => hv h.1)])
        go_wp2_with fail
        go_roundw
        case rel => exact ⟨pos + d.2, hit2, Hb2.out, HF.out⟩
        case measure =>
          simp only [World.iterPos, Hit.out, hit2]
          omega
    · have hnx : ∀ ty, (Instr.next (.pointer (some ⟨w.heap.size, 0, none⟩)) true ty).run Tryd.prog wr = _ := fun ty => Lib.run_next_end_at wr w.heap.size s pos ty hit hp
      have HF : Hid (spR s.data.toList 0 = none) := Lib.hid (by rw [← Hsp.out, List.drop_eq_nil_of_le (by rw [← Lib.size_eq]; omega), spR_nil])
      go_wp2_with fail
      go_ret
      exact ⟨by rw [HF.out]; rfl, Hb.out⟩

/- readPattern -/
def PatPost (r : Except Nat (List Pt)) (w : World) (e : Ending) (w' : World) : Prop :=
  ∃ (v : Value) (k : Int), e = .returned (.tuple #[v, .int .i64 k]) ∧ Below w.heap.size w w' ∧ (∃ a n c, v = .slice a n c) ∧ (∀ f, r = .error f → k = f) ∧ (∀ ps, r = .ok ps → k = -1 ∧ LPts w' v ps)
theorem pat_bad {r : Except Nat (List Pt)} {w w' : World} {f : Nat} (hr : r = .error f) (hb : Below w.heap.size w w') : PatPost r w (.returned (.tuple #[.slice none 0 0, .int .i64 f])) w' :=
  ⟨.slice none 0 0, f, rfl, hb, ⟨_, _, _, rfl⟩, fun g hg => (by rw [hr] at hg; cases hg; rfl), fun x hx => by rw [hr] at hx; cases hx⟩
theorem one_pt (w : World) (a b : Value) : ∀ j u, [a, b][j]? = some u → (w.alloc (.cells #[a, b] 119)).cell? ((⟨w.heap.size, 0, none⟩ : Addr).add j) = some u := by
  intro j u hj
  match j, hj with
  | 0, hj => simp at hj; subst hj; exact World.cell?_alloc_at _ _ _ _ rfl
  | 1, hj => simp at hj; subst hj; exact World.cell?_alloc_at _ _ _ _ rfl
  | j + 2, hj => simp at hj
theorem ptGo_err : ∀ (n : Nat) (l : List UInt8) (a : Nat) (acc : List El) (f : Nat), ptGo n l a acc = .error f → f ≤ a + l.length
  | 0, l, a, acc, f, h => by simp [ptGo] at h; omega
  | n + 1, l, a, acc, f, h => by
    unfold ptGo at h
    split at h
    · simp at h
    · rename_i h0
      split at h
      · simp at h; omega
      · rename_i e k he
        have h1 := ptGo_err n _ _ _ f h
        have h2 := elL_le h0 he
        rw [List.length_drop] at h1
        omega
theorem ptL_err {l : List UInt8} {f : Nat} (h : ptL l = .error f) : f ≤ l.length := by
  unfold ptL at h
  split at h
  · simp at h; omega
  · split at h
    · simp at h
    · split at h
      · rename_i k hk
        simp at h
        subst h
        have := ptGo_err _ _ _ _ _ hk
        omega
      · simp at h
def tot (ls : List (List UInt8)) : Nat := (ls.map fun t => t.length + 1).sum
theorem tot_cutOn : ∀ l : List UInt8, tot (NP.cutOn l) = l.length + 1
  | [] => rfl
  | x :: r => by
    have ih := tot_cutOn r
    unfold NP.cutOn
    by_cases h : x = 47
    · rw [if_pos h]
      unfold tot at ih ⊢
      simp [ih]
      omega
    · rw [if_neg h]
      split
      · rename_i e; exact absurd e (NP.cutOn_ne r)
      · rename_i a t e
        rw [e] at ih
        unfold tot at ih ⊢
        simp at ih ⊢
        omega
/-- What a round of readPattern leaves. -/
structure PatRel (l0 : List UInt8) (w : World) (k a : Nat) (acc : List Pt) (v : Value) (tr : List PT) (wr : World) : Prop where
  le : k ≤ (NP.cutOn l0).length
  few : acc.length ≤ k
  at' : a + tot ((NP.cutOn l0).drop k) = l0.length + 1
  go : psR ((NP.cutOn l0).drop k) a acc = psR (NP.cutOn l0) 0 []
  len : tr.length = acc.length
  own : wr.ownsRow w.heap.size 119 2 v acc.length (ptCells tr)
  lie : ∀ (j : Nat) t p, tr[j]? = some t → acc[j]? = some p → LPt wr t p
  below : Below w.heap.size w wr
theorem PatRel.next {l0 : List UInt8} {w : World} {k a : Nat} {acc : List Pt} {v : Value} {tr : List PT} {wr w2 w3 : World} {o1 o2 : Obj} {v' : Value} {t : PT} {p : Pt} {x : List UInt8}
    (h : PatRel l0 w k a acc v tr wr) (hx : (NP.cutOn l0)[k]? = some x) (he : ptL x = .ok p) (hb : Below wr.heap.size wr w2) (hle : LPt w2 t p)
    (hown : w3.ownsRow w.heap.size 119 2 v' (acc.length + 1) (ptCells tr ++ [.bool t.m, t.v])) (hg : ((w2.alloc o1).alloc o2).grownBy w3 v.ownBlock) :
    PatRel l0 w (k + 1) (a + (x.length + 1)) (acc ++ [p]) v' (tr ++ [t]) w3 := by
  have hv : ∀ k, v.ownBlock = some k → w.heap.size ≤ k := fun k hk => (h.own.lt k hk).1
  obtain ⟨hkl, hxe⟩ := List.getElem?_eq_some_iff.1 hx
  have hd : (NP.cutOn l0).drop k = x :: (NP.cutOn l0).drop (k + 1) := by rw [List.drop_eq_getElem_cons hkl, hxe]
  have hown2 : ((w2.alloc o1).alloc o2).ownsRow w.heap.size 119 2 v acc.length (ptCells tr) := ((owns_below h.own hb).alloc _).alloc _
  have k2 : OthersKept 119 none w2 w3 := (((OthersKept.refl _ _ _).alloc _).alloc _).grown hg (owns_kind hown2)
  have keep : ∀ t p, LPt w2 t p → LPt w3 t p := fun t p hte => hte.kept (T := 119) (by decide) (by decide) k2
  refine ⟨by omega, ?_, ?_, ?_, ?_, ?_, ?_, ?_⟩
  · rw [List.length_append]
    have := h.few
    simp only [List.length_cons, List.length_nil]
    omega
  · have := h.at'
    rw [hd] at this
    unfold tot at this ⊢
    simp at this ⊢
    omega
  · rw [← h.go, hd, psR, he]
  · simp [h.len]
  · have e : (acc ++ [p]).length = acc.length + 1 := by simp
    rw [e]
    unfold ptCells at hown ⊢
    rw [flat_snoc]
    exact hown
  · intro j y z hy hz
    by_cases hj : j < acc.length
    · rw [List.getElem?_append_left (by have := h.len; omega)] at hy
      rw [List.getElem?_append_left hj] at hz
      exact keep _ _ ((h.lie j y z hy hz).below hb)
    · obtain ⟨hj2, _⟩ := List.getElem?_eq_some_iff.1 hz
      simp at hj2
      obtain rfl : j = acc.length := by omega
      rw [List.getElem?_append_right (by omega)] at hz
      rw [List.getElem?_append_right (by have := h.len; omega), h.len] at hy
      simp at hy hz
      subst hy hz
      exact keep _ _ hle
  · have hs := hb.size
    have hsw := h.below.size
    have h1 : Below w.heap.size w ((w2.alloc o1).alloc o2) := ((h.below.trans (hb.mono (by omega))).alloc (by omega) _).alloc (by simp; omega) _
    exact h1.grown hg (by simp; omega) (fun k hk => hv k hk)
set_option maxRecDepth 100000 in
set_option maxHeartbeats 3200000 in
theorem readPattern_any (s : ByteArray) (w : World) (he : Env w) (hs : s.size ≤ maxLen) :
    Calls Tryd.prog 53 #[.string s] w (PatPost (patL s.data.toList) w) := by
  have He := Lib.hid he
  clear he
  unfold maxLen at hs
  have infoP : (Tryd.prog.info? 119).map (fun i => (i.zero, i.size, i.bytes)) = some (some (.agg #[.bool false, .slice none 0 0]), 2, 32) := by kernel_rfl
  obtain ⟨i0, hi, hz0, hz1, hz2⟩ := info_parts infoP
  clear infoP
  by_cases h0 : s.data.toList = []
  · obtain ⟨hte, hsz⟩ := empty_of h0
    have HF : Hid (patL s.data.toList = .error 0) := Lib.hid (by unfold patL; rw [if_pos (.inl h0), h0]; rfl)
    clear h0
    go_enter Tryd.func53, Tryd.ntmps53
    go_wp2_with fail
    go_ret2
    exact pat_bad HF.out (Below.refl _ _)
  · have hte : s.toList.isEmpty = false := by rw [Lib.toList_data]; simpa using h0
    by_cases h4 : 400 < s.size
    · have h4z : (400 : Int) < s.size := by omega
      have HF : Hid (patL s.data.toList = .error s.size) := Lib.hid (by unfold patL; rw [if_pos (.inr (by rw [← Lib.size_eq]; exact h4)), Lib.size_eq])
      clear h0
      go_enter Tryd.func53, Tryd.ntmps53
      go_wp2_with fail
      go_ret2
      exact pat_bad HF.out (Below.refl _ _)
    · have h4z : ¬ (400 : Int) < s.size := by omega
      have h4d : decide ((400 : Int) < s.size) = false := decide_eq_false h4z
      have cS := spoilt_any s w (by omega)
      have hpos : 1 ≤ s.size := by rw [Lib.size_eq]; exact List.length_pos_iff.2 h0
      cases hsp : spR s.data.toList 0 with
      | some k =>
        have HF : Hid (patL s.data.toList = .error k) := Lib.hid (by unfold patL; rw [if_neg (by rw [← Lib.size_eq]; intro h; rcases h with h | h; exact h0 h; omega), hsp])
        rw [hsp] at cS
        have hkz : (0 : Int) ≤ (k : Int) := by omega
        clear h0 hsp
        go_enter Tryd.func53, Tryd.ntmps53
        go_wp2_with fail
        refine cS.mono ?_
        rintro e w1 ⟨rfl, hb⟩
        unfold spI
        go_wp2_with fail
        go_ret2
        exact pat_bad HF.out hb
      | none =>
        have HF : Hid (patL s.data.toList = match psR (NP.cutOn s.data.toList) 0 [] with
            | .error k => .error (min k (s.size - 1))
            | .ok ps => .ok ps) := Lib.hid (by
          unfold patL
          rw [if_neg (by rw [← Lib.size_eq]; intro h; rcases h with h | h; exact h0 h; omega), hsp, Lib.size_eq]
          cases psR (NP.cutOn s.data.toList) 0 [] <;> rfl)
        rw [hsp] at cS
        clear h0 hsp
        go_enter Tryd.func53, Tryd.ntmps53
        go_wp2_with fail
        refine cS.mono ?_
        rintro e w1 ⟨rfl, hb⟩
        unfold spI
        have cC := split_any s w1 (He.out.below hb) (by omega)
        have Hb1 := Lib.hid hb
        clear hb cS
        go_wp2_with fail
        refine cC.mono ?_
        rintro e w2 ⟨xs, rfl, hx1, hx2, hx3, hx4, hb2⟩
        rw [NP.split_eq] at hx1
        have hxl : xs.length = (NP.cutOn s.data.toList).length := by rw [← hx1, List.length_map]
        have hcl := NP.cutOn_length s.data.toList
        have hct : s.data.toList.count 47 ≤ s.data.toList.length := List.count_le_length
        have hle : xs.length ≤ 401 := by rw [Lib.size_eq] at h4z; omega
        have hgl : w1.heap.size < w2.heap.size := hx4.block
        have Hx := Lib.hid hx1
        have Hx2 := Lib.hid hx2
        have Hx4 := Lib.hid hx4
        have Hw : Hid (Below w.heap.size w w2) := Lib.hid (Hb1.out.trans (hb2.mono Hb1.out.size))
        have Hxl := Lib.hid hxl
        clear hx1 hx2 hx3 hx4 hb2 cC hcl hct hxl
        go_wp2_with fail
        go_loopw [28, 5, 6] (fun s28 s5 s6 wr => ∃ (k a : Nat) (acc : List Pt) (v : Value) (tr : List PT), s28 = .int .i64 k ∧ s5 = v ∧ s6 = .int .i64 a ∧ PatRel s.data.toList w2 k a acc v tr wr) (fun s28 _ _ _ => xs.length - (Go.RowKit.intOf s28).toNat)
        case atStart =>
          exact ⟨0, 0, [], .slice none 0 0, [], rfl, rfl, rfl, Nat.zero_le _, Nat.le_refl _, by rw [List.drop_zero, tot_cutOn]; omega, by rw [List.drop_zero], rfl, World.ownsRow_nil _ _ _ _, fun j t e h => by simp at h, Below.refl _ _⟩
        case round =>
          obtain ⟨k, a, acc, v, tr, rfl, rfl, rfl, hr⟩ := hrel
          have Hr := Lib.hid hr
          obtain ⟨ao, cc, hv, _⟩ := owns_view hr.own
          subst hv
          have hfew := hr.few
          have hat := hr.at'
          have hsw := hr.below.size
          clear hr
          rw [← Lib.size_eq] at hat
          by_cases hk : k < xs.length
          · have hz : (k : Int) < xs.length := by omega
            obtain ⟨x, hx⟩ : ∃ x, xs[k]? = some x := ⟨xs[k], List.getElem?_eq_getElem hk⟩
            have hcell : wr.cell? ⟨w1.heap.size, k, none⟩ = some (.string x) := by
              rw [Hr.out.below.cell (p := ⟨w1.heap.size, k, none⟩) hgl]
              have := Hx4.out.cells k x hx
              rw [Nat.zero_add] at this
              exact this
            have hxc : (NP.cutOn s.data.toList)[k]? = some x.data.toList := by rw [← Hx.out, List.getElem?_map, hx]; rfl
            have hxs := Hx2.out x (List.mem_of_getElem? hx)
            obtain ⟨hkl, hxe⟩ := List.getElem?_eq_some_iff.1 hxc
            have hd : (NP.cutOn s.data.toList).drop k = x.data.toList :: (NP.cutOn s.data.toList).drop (k + 1) := by rw [List.drop_eq_getElem_cons hkl, hxe]
            have hsum : a + (x.size + 1) ≤ s.size + 1 := by
              rw [hd] at hat
              unfold tot at hat
              simp only [List.map_cons, List.sum_cons] at hat
              rw [← Lib.size_eq] at hat
              omega
            have hgo := Hr.out.go
            rw [hd, psR] at hgo
            have cP := readPart_any x wr (He.out.below (Hw.out.trans (Hr.out.below.mono Hw.out.size))) (by omega)
            have HN := Lib.hid (fun (w2' w3 : World) (o1 o2 : Obj) (v' : Value) (t : PT) (p : Pt) => Hr.out.next (w2 := w2') (w3 := w3) (o1 := o1) (o2 := o2) (v' := v') (t := t) (p := p) hxc)
            have herr : ∀ f, ptL x.data.toList = .error f → f ≤ x.size := fun f h => by rw [Lib.size_eq]; exact ptL_err h
            have Hxsz : Hid (x.data.toList.length = x.size) := Lib.hid (Lib.size_eq x).symm
            generalize ptL x.data.toList = E at cP HN hgo herr
            have Hgo := Lib.hid hgo
            clear hx hxc hkl hxe hd hgo hat
            go_wp2_with fail
            refine cP.mono ?_
            rintro e w3 ⟨t, n, rfl, hb3, ⟨pa, pj, pc, hv⟩, hn, hy⟩
            obtain ⟨m, tv⟩ := t
            simp only at hv
            subst hv
            have hs3 := hb3.size
            unfold ptV
            cases E with
            | error f =>
              obtain rfl := hn f rfl
              have hfx := herr f rfl
              have hpt : Hid (patL s.data.toList = .error (min (a + f) (s.size - 1))) := Lib.hid (by
                have h1 := Hgo.out
                simp only at h1
                rw [HF.out, ← h1])
              have Hb3 : Hid (Below w.heap.size w w3) := Lib.hid (Hw.out.trans ((Hr.out.below.mono Hw.out.size).trans (hb3.mono (by have := Hw.out.size; omega))))
              have hw3 : w.heap.size ≤ w3.heap.size := Hb3.out.size
              have hnum : ((min (a + f) (s.size - 1) : Nat) : Int) = min ((a : Int) + f) ((s.size : Int) - 1) := by omega
              have Hnum := Lib.hid hnum
              have hf0 : (0 : Int) ≤ (f : Int) := by omega
              have hbb : (a : Int) + f ≤ 1000 := by omega
              clear hb3 cP hn hy herr hnum
              go_wp2_with fail
              go_ret2
              have h1 := pat_bad (w' := w3.alloc (.cells #[.bool m, .slice pa pj pc] 119)) hpt.out (Hb3.out.alloc hw3 _)
              rw [Hnum.out] at h1
              exact h1
            | ok p =>
              obtain ⟨hk1, hle⟩ := hy p rfl
              subst hk1
              have HO := Lib.hid (owns_below Hr.out.own hb3)
              have Hb3 := Lib.hid hb3
              have Hle := Lib.hid hle
              have hal : acc.length ≤ 401 := by omega
              have hsum2 : (a : Int) + (x.size + 1) ≤ 401 := by omega
              have hsz2 : w2.heap.size ≤ w3.heap.size := by omega
              clear hb3 cP hn hy hle herr
              go_wp2_with (first | (at_builtin; refine wpList_append_own _ rfl _ _ 94 rfl w2.heap.size 119 i0 (.agg #[.bool false, .slice none 0 0]) 2 32 Tryd.underlying94 hi hz0 hz1 hz2 rfl (by decide) _ _ _ rfl ((HO.out.alloc _).alloc _) ⟨w3.heap.size + 1, 0, none⟩ 1 1 [.bool m, .slice pa pj pc] rfl rfl (by have := one_pt (w3.alloc (.cells #[.bool m, .slice pa pj pc] 119)) (.bool m) (.slice pa pj pc); simpa using this) (fun y hy => by simp at hy; rcases hy with rfl | rfl <;> rfl) (by unfold maxLen; omega) (by omega) (by simp; omega) ?_; intro v' w4 hown4 hgrow4 hnil4; obtain ⟨ao4, cc4, hv4, _⟩ := owns_view hown4; subst hv4; have Hown4 := Lib.hid hown4; have Hgrow4 := Lib.hid hgrow4; clear hown4 hgrow4 hnil4))
              go_roundw
              case rel => exact ⟨k + 1, a + (x.size + 1), _, _, _, by go_num, rfl, by go_num, by have := HN.out w3 w4 _ _ _ ⟨m, .slice pa pj pc⟩ p rfl Hb3.out Hle.out Hown4.out Hgrow4.out; rw [Hxsz.out] at this; exact this⟩
              case measure => simp [Go.RowKit.intOf]; omega
          · have hz : ¬ (k : Int) < xs.length := by omega
            have hpt : Hid (patL s.data.toList = .ok acc) := Lib.hid (by
              have h1 := Hr.out.go
              rw [List.drop_eq_nil_of_le (by rw [← Hxl.out]; omega), psR] at h1
              rw [HF.out, ← h1])
            go_wp2_with fail
            go_ret2
            exact ⟨.slice ao acc.length cc, -1, rfl, Hw.out.trans (Hr.out.below.mono Hw.out.size), ⟨_, _, _, rfl⟩, fun f hf => (by rw [hpt.out] at hf; cases hf), fun ps hp => (by
              rw [hpt.out] at hp
              cases hp
              exact ⟨rfl, tr, Hr.out.len, owns_base Hr.out.own 0 (Nat.zero_le _), Hr.out.lie⟩)⟩
end GR
end Go.Proofs.YtechekdiadpmoaaDoor
