/- Layer 2: the contracts of matches, Match, Check. -/
import Derived.Test.YtechekdiadpmoaaDoorQGlobFrom3
set_option linter.all false
set_option maxRecDepth 100000
set_option maxHeartbeats 25600000
namespace Go.Proofs.YtechekdiadpmoaaDoor
open Go.RowKit Go.Lib
namespace GH
open GP GM NF NC GR

theorem map_new {W : World} {c : Nat} {b : Nat} (h : W.heap[b]? = some (.map #[] c)) : MapIs W b [] :=
  ⟨#[], c, h, ⟨⟨fun x hx => by simp at hx, by simp, by simp⟩, by simp, fun e he => by simp at he, fun p hp => by cases hp⟩⟩
set_option maxRecDepth 100000 in
set_option maxHeartbeats 1600000 in
theorem matches_many (ps : List Pt) (hfew : Few ps) (xs : List ByteArray) (hxs : ∀ x ∈ xs, x.size ≤ maxLen) (hxl : xs.length ≤ 1000) (vp : Value) (gn cn : Nat) (w : World) (hp : LPts w vp ps) (hn : NamesAt w gn 0 xs) (h1 : ps.length ≠ 1) :
    Calls Tryd.prog 55 #[vp, .slice (some ⟨gn, 0, none⟩) xs.length cn] w (fun e w' => e = .returned (.bool (mat ps (xs.map (·.data.toList)))) ∧ Below w.heap.size w w') := by
  obtain ⟨hpl, ap, cp, rfl⟩ := pts_val hp
  have HP := Lib.hid hp
  have HN := Lib.hid hn
  have h1z : ¬ (ps.length : Int) = 1 := by omega
  have hmm := @run_makeMap Tryd.prog
  clear hp hn
  go_enter Tryd.func55, Tryd.ntmps55
  go_wp2_with fail
  have hb2 : Below w.heap.size w ((w.alloc (.map #[] 0)).alloc (.cells #[.slice ap ps.length cp, .slice (some ⟨gn, 0, none⟩) xs.length cn, .map (some w.heap.size)] 124)) := ((Below.refl _ _).alloc (Nat.le_refl _) _).alloc (by simp) _
  have hm : MapIs ((w.alloc (.map #[] 0)).alloc (.cells #[.slice ap ps.length cp, .slice (some ⟨gn, 0, none⟩) xs.length cn, .map (some w.heap.size)] 124)) w.heap.size [] := map_new (c := 0) (by
    rw [heap_alloc_old _ _ (by simp)]
    exact heap_alloc_new _ _)
  have cF := from_any ps hfew xs hxs hxl (.slice ap ps.length cp) gn 0 cn w.heap.size _ 0 0 [] _ (Nat.le_refl _) (Nat.zero_le _) (Nat.zero_le _) (HP.out.below hb2) ((cells_below hb2).names hb2.size HN.out) hm (fun p hp => by cases hp)
  have Hb2 := Lib.hid hb2
  clear hb2 hm
  refine cF.mono ?_
  rintro e w3 ⟨D3, rfl, _, hg, _⟩
  have Hb3 : Hid (Below w.heap.size w w3) := Lib.hid (Hb2.out.grown hg (by simp; omega) (fun k hk => by cases hk; exact Nat.le_refl _))
  have hX : Hid (mat ps (xs.map (·.data.toList)) = mat (ps.drop 0) ((xs.map (·.data.toList)).drop 0)) := Lib.hid (by rw [List.drop_zero, List.drop_zero])
  generalize mat (ps.drop 0) ((xs.map (·.data.toList)).drop 0) = X at hX
  clear hg cF
  go_wp2_with fail
  go_ret
  exact ⟨by rw [hX.out]; rfl, Hb3.out⟩
set_option maxRecDepth 100000 in
set_option maxHeartbeats 1600000 in
theorem matches_one (ps : List Pt) (hfew : Few ps) (xs : List ByteArray) (hxs : ∀ x ∈ xs, x.size ≤ maxLen) (hxl : xs.length ≤ 1000) (vp : Value) (gn cn : Nat) (w : World) (hp : LPts w vp ps) (hn : NamesAt w gn 0 xs) (h1 : ps.length = 1) (h0 : 0 < xs.length) (hcn : xs.length ≤ cn) :
    Calls Tryd.prog 55 #[vp, .slice (some ⟨gn, 0, none⟩) xs.length cn] w (fun e w' => e = .returned (.bool (mat ps (lastOnly (xs.map (·.data.toList))))) ∧ Below w.heap.size w w') := by
  obtain ⟨hpl, ap, cp, rfl⟩ := pts_val hp
  have HP := Lib.hid hp
  have HN := Lib.hid hn
  have h1z : (ps.length : Int) = 1 := by omega
  have h0z : (1 : Int) ≤ xs.length := by omega
  have hcz : (xs.length : Int) ≤ cn := by omega
  have hmm := @run_makeMap Tryd.prog
  clear hp hn
  go_enter Tryd.func55, Tryd.ntmps55
  go_wp2_with fail
  have eL : xs.length - (xs.length - 1) = 1 := by omega
  rw [eL]
  have hp1 : LPts w (.slice ap 1 cp) ps := by have := HP.out; rw [h1] at this; exact this
  have hl1 : (lastOnly xs).length = 1 := by unfold lastOnly; rw [List.length_drop]; exact eL
  have hn1 : NamesAt w gn (xs.length - 1) (lastOnly xs) := ⟨HN.out.1, fun j x hx => by
    unfold lastOnly at hx
    rw [List.getElem?_drop] at hx
    have := HN.out.2 _ x hx
    rw [Nat.zero_add] at this
    exact this⟩
  have hb2 : Below w.heap.size w ((w.alloc (.map #[] 0)).alloc (.cells #[.slice ap 1 cp, .slice (some ⟨gn, xs.length - 1, none⟩) 1 (cn - (xs.length - 1)), .map (some w.heap.size)] 124)) := ((Below.refl _ _).alloc (Nat.le_refl _) _).alloc (by simp) _
  have hm : MapIs ((w.alloc (.map #[] 0)).alloc (.cells #[.slice ap 1 cp, .slice (some ⟨gn, xs.length - 1, none⟩) 1 (cn - (xs.length - 1)), .map (some w.heap.size)] 124)) w.heap.size [] := map_new (c := 0) (by
    rw [heap_alloc_old _ _ (by simp)]
    exact heap_alloc_new _ _)
  have cF := from_any ps hfew (lastOnly xs) (fun x hx => hxs x (List.mem_of_mem_drop hx)) (by omega) (.slice ap 1 cp) gn (xs.length - 1) (cn - (xs.length - 1)) w.heap.size _ 0 0 [] _ (Nat.le_refl _) (Nat.zero_le _) (Nat.zero_le _) (hp1.below hb2) ((cells_below hb2).names hb2.size hn1) hm (fun p hp => by cases hp)
  rw [hl1] at cF
  have Hb2 := Lib.hid hb2
  clear hb2 hm
  refine cF.mono ?_
  rintro e w3 ⟨D3, rfl, _, hg, _⟩
  have Hb3 : Hid (Below w.heap.size w w3) := Lib.hid (Hb2.out.grown hg (by simp; omega) (fun k hk => by cases hk; exact Nat.le_refl _))
  have hX : Hid (mat ps (lastOnly (xs.map (·.data.toList))) = mat (ps.drop 0) (((lastOnly xs).map (·.data.toList)).drop 0)) := Lib.hid (by
    rw [List.drop_zero, List.drop_zero]
    unfold lastOnly
    rw [List.length_map, List.map_drop])
  generalize mat (ps.drop 0) (((lastOnly xs).map (·.data.toList)).drop 0) = X at hX
  clear hg cF
  go_wp2_with fail
  go_ret
  exact ⟨by rw [hX.out]; rfl, Hb3.out⟩
theorem matches_any (ps : List Pt) (hfew : Few ps) (xs : List ByteArray) (hxs : ∀ x ∈ xs, x.size ≤ maxLen) (hxl : xs.length ≤ 1000) (vp : Value) (gn cn : Nat) (w : World) (hp : LPts w vp ps) (hn : NamesAt w gn 0 xs) (h0 : 0 < xs.length) (hcn : xs.length ≤ cn) :
    Calls Tryd.prog 55 #[vp, .slice (some ⟨gn, 0, none⟩) xs.length cn] w (fun e w' => e = .returned (.bool (matchL ps (xs.map (·.data.toList)))) ∧ Below w.heap.size w w') := by
  unfold matchL
  by_cases h1 : ps.length = 1
  · rw [if_pos h1]
    exact matches_one ps hfew xs hxs hxl vp gn cn w hp hn h1 h0 hcn
  · rw [if_neg h1]
    exact matches_many ps hfew xs hxs hxl vp gn cn w hp hn h1
/- how much a pattern holds -/
theorem ptGo_len : ∀ (n : Nat) (l : List UInt8) (a : Nat) (acc els : List El), ptGo n l a acc = .ok els → els.length ≤ acc.length + l.length
  | 0, l, a, acc, els, h => by simp [ptGo] at h
  | n + 1, l, a, acc, els, h => by
    unfold ptGo at h
    split at h
    · simp at h; subst h; omega
    · rename_i h0
      split at h
      · simp at h
      · rename_i e k he
        have h1 := ptGo_len n _ _ _ els h
        have h2 := elL_le h0 he
        rw [List.length_drop, List.length_append] at h1
        simp at h1
        omega
theorem ptL_len {l : List UInt8} {els : List El} (h : ptL l = .ok (.one els)) : els.length ≤ l.length := by
  unfold ptL at h
  split at h
  · simp at h
  · split at h
    · simp at h
    · split at h
      · simp at h
      · rename_i k hk
        simp at h
        subst h
        have := ptGo_len _ _ _ _ _ hk
        simpa using this
theorem psR_few : ∀ (ts : List (List UInt8)) (a : Nat) (acc ps : List Pt), psR ts a acc = .ok ps → (∀ t ∈ ts, t.length ≤ 400) → (∀ els, Pt.one els ∈ acc → els.length ≤ 400) → ps.length = acc.length + ts.length ∧ ∀ els, Pt.one els ∈ ps → els.length ≤ 400
  | [], a, acc, ps, h, _, ha => by
    simp [psR] at h
    subst h
    exact ⟨by simp, ha⟩
  | t :: ts, a, acc, ps, h, ht, ha => by
    unfold psR at h
    split at h
    · simp at h
    · rename_i p hp
      have h1 := psR_few ts _ _ ps h (fun t' h' => ht t' (by simp [h'])) (fun els he => by
        rw [List.mem_append, List.mem_singleton] at he
        rcases he with he | he
        · exact ha els he
        · subst he
          exact Nat.le_trans (ptL_len hp) (ht t (by simp)))
      rw [List.length_append] at h1
      simp at h1 ⊢
      exact ⟨by omega, h1.2⟩
theorem cutOn_le : ∀ (l : List UInt8), ∀ t ∈ NP.cutOn l, t.length ≤ l.length
  | [], t, h => by simp [NP.cutOn] at h; subst h; simp
  | x :: r, t, h => by
    have ih := cutOn_le r
    unfold NP.cutOn at h
    split at h
    · simp only [List.mem_cons] at h
      rcases h with rfl | h
      · simp
      · have := ih t h; simp; omega
    · split at h
      · rename_i e; exact absurd e (NP.cutOn_ne r)
      · rename_i a q e
        simp only [List.mem_cons] at h
        rcases h with rfl | h
        · have := ih a (by rw [e]; simp); simp; omega
        · have := ih t (by rw [e]; simp [h]); simp; omega
theorem patL_few {l : List UInt8} {ps : List Pt} (h : patL l = .ok ps) : Few ps ∧ 0 < ps.length := by
  unfold patL at h
  split at h
  · simp at h
  · rename_i h0
    split at h
    · simp at h
    · split at h
      · simp at h
      · rename_i qs hq
        simp at h
        subst h
        have hl : l.length ≤ 400 := by omega
        have h1 := psR_few _ _ _ _ hq (fun t ht => Nat.le_trans (cutOn_le l t ht) hl) (fun els he => by cases he)
        have h2 := NP.cutOn_length l
        have h3 : l.count 47 ≤ l.length := List.count_le_length
        simp at h1
        exact ⟨⟨by omega, h1.2⟩, by omega⟩
/- Match -/
theorem names_no {l : List UInt8} (h : NP.pathL l = false) : namesL l = [] := by unfold namesL; rw [h]; rfl
theorem names_yes {l : List UInt8} (h : NP.pathL l = true) : namesL l = NP.cutOn l := by unfold namesL; rw [h]; rfl
set_option maxHeartbeats 1600000 in
theorem match_any (p q : ByteArray) (w : World) (he : Env w) (hp : p.size ≤ maxLen) (hq : q.size ≤ maxLen) :
    Calls Tryd.prog 34 #[.string p, .string q] w (fun e w' => e = .returned (.bool (matL p.data.toList q.data.toList)) ∧ Below w.heap.size w w') := by
  have He := Lib.hid he
  have cP := readPattern_any p w he hp
  clear he
  unfold maxLen at hp
  unfold matL
  cases hpat : patL p.data.toList with
  | error f =>
    rw [hpat] at cP
    clear hpat
    by_cases hpq : NP.pathL q.data.toList = true
    · go_enter Tryd.func34, Tryd.ntmps34
      go_wp2_with fail
      refine cP.mono ?_
      rintro e w1 ⟨v, k, rfl, hb1, ⟨a, n, c, hv⟩, h1, _⟩
      subst hv
      obtain rfl := h1 f rfl
      have hkz : ¬ ((f : Nat) : Int) < 0 := by omega
      have hkd : decide (((f : Nat) : Int) < 0) = false := decide_eq_false hkz
      have cS := split_yes q w1 (He.out.below hb1) hq hpq
      have Hb1 := Lib.hid hb1
      clear h1 hb1 cP
      go_wp2_with fail
      refine cS.mono ?_
      rintro e w2 ⟨bk, xs, rfl, _, _, _, _, _, hb2⟩
      have Hb2 := Lib.hid (Hb1.out.trans (hb2.mono Hb1.out.size))
      clear hb2 cS
      go_wp2_with fail
      go_ret
      exact ⟨rfl, Hb2.out⟩
    · have hpf : NP.pathL q.data.toList = false := by simpa using hpq
      go_enter Tryd.func34, Tryd.ntmps34
      go_wp2_with fail
      refine cP.mono ?_
      rintro e w1 ⟨v, k, rfl, hb1, ⟨a, n, c, hv⟩, h1, _⟩
      subst hv
      obtain rfl := h1 f rfl
      have hkz : ¬ ((f : Nat) : Int) < 0 := by omega
      have hkd : decide (((f : Nat) : Int) < 0) = false := decide_eq_false hkz
      have cS := split_no q w1 (He.out.below hb1) hq hpf
      have Hb1 := Lib.hid hb1
      clear h1 hb1 cP hpq hpf
      go_wp2_with fail
      refine cS.mono ?_
      rintro e w2 ⟨rfl, hb2⟩
      have Hb2 := Lib.hid (Hb1.out.trans (hb2.mono Hb1.out.size))
      clear hb2 cS
      go_wp2_with fail
      go_ret
      exact ⟨rfl, Hb2.out⟩
  | ok ps =>
    rw [hpat] at cP
    obtain ⟨hfew, _⟩ := patL_few hpat
    clear hpat
    by_cases hpq : NP.pathL q.data.toList = true
    · have hq4 : q.data.toList.length ≤ 400 := path_short hpq
      have HF := Lib.hid (names_yes hpq)
      go_enter Tryd.func34, Tryd.ntmps34
      go_wp2_with fail
      refine cP.mono ?_
      rintro e w1 ⟨v, k, rfl, hb1, ⟨a, n, c, hv⟩, _, h2⟩
      obtain ⟨rfl, hps⟩ := h2 ps rfl
      subst hv
      have cS := split_yes q w1 (He.out.below hb1) hq hpq
      have Hb1 := Lib.hid hb1
      have Hps := Lib.hid hps
      clear hb1 hps cP h2 hpq
      go_wp2_with fail
      refine cS.mono ?_
      rintro e w2 ⟨bk, xs, rfl, hx1, hx2, hx3, hx4, _, hb2⟩
      have hct : q.data.toList.count 47 ≤ q.data.toList.length := List.count_le_length
      have hxp : 0 < xs.length := by omega
      have hxz : (0 : Int) < xs.length := by omega
      have cM := matches_any ps hfew xs (fun x hx => by have := hx2 x hx; omega) (by omega) (.slice a n c) bk xs.length w2 (Hps.out.below hb2) ⟨hx4.block, hx4.cells⟩ hxp (Nat.le_refl _)
      rw [hx1] at cM
      have Hb2 := Lib.hid (Hb1.out.trans (hb2.mono Hb1.out.size))
      clear hb2 cS hx1 hx2 hx3 hx4 hct
      go_wp2_with fail
      refine cM.mono ?_
      rintro e w3 ⟨rfl, hb3⟩
      have Hb3 := Lib.hid (Hb2.out.trans (hb3.mono Hb2.out.size))
      have HR : Hid ((decide (namesL q.data.toList ≠ []) && matchL ps (namesL q.data.toList)) = matchL ps (NP.cutOn q.data.toList)) := Lib.hid (by
        rw [HF.out, decide_eq_true (NP.cutOn_ne _)]
        rfl)
      clear hb3 cM
      generalize matchL ps (NP.cutOn q.data.toList) = X at HR
      go_wp2_with fail
      go_ret
      exact ⟨by rw [HR.out]; rfl, Hb3.out⟩
    · have hpf : NP.pathL q.data.toList = false := by simpa using hpq
      have HR : Hid ((decide (namesL q.data.toList ≠ []) && matchL ps (namesL q.data.toList)) = false) := Lib.hid (by rw [names_no hpf]; rfl)
      go_enter Tryd.func34, Tryd.ntmps34
      go_wp2_with fail
      refine cP.mono ?_
      rintro e w1 ⟨v, k, rfl, hb1, ⟨a, n, c, hv⟩, _, h2⟩
      obtain ⟨rfl, hps⟩ := h2 ps rfl
      subst hv
      have cS := split_no q w1 (He.out.below hb1) hq hpf
      have Hb1 := Lib.hid hb1
      clear hb1 hps cP h2 hpq hpf
      go_wp2_with fail
      refine cS.mono ?_
      rintro e w2 ⟨rfl, hb2⟩
      have Hb2 := Lib.hid (Hb1.out.trans (hb2.mono Hb1.out.size))
      clear hb2 cS
      go_wp2_with fail
      go_ret
      exact ⟨by rw [HR.out]; rfl, Hb2.out⟩
/- Check -/
def chkL (l : List UInt8) : Nat × Nat := match patL l with
  | .error f => (f, 20)
  | .ok _ => (0, 0)
end GH
end Go.Proofs.YtechekdiadpmoaaDoor
