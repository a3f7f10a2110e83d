/- Layer 2: the contracts of readRules, lastWord, Ignored, Rules. -/
import Derived.Test.YtkfddnkeoopfbaaDoorGlobMatch
namespace Go.Proofs.YtkfddnkeoopfbaaDoor
open Go.RowKit Go.Lib
namespace GI
open GP GM GH NF NC GR

abbrev Rl := Bool × ByteArray
/-- A list of rules, as it lies: in whatever block, from whatever place on. -/
def RulesAt (w : World) (ao : Option Addr) (rs : List Rl) : Prop :=
  0 < rs.length → ∃ g o, ao = some ⟨g, o, none⟩ ∧ g < w.heap.size ∧ ∀ (k : Nat) r, rs[k]? = some r → w.cell? ⟨g, o + k * 2, none⟩ = some (.bool r.1) ∧ w.cell? ⟨g, o + k * 2 + 1, none⟩ = some (.string r.2)
theorem RulesAt.below {w w' : World} {ao : Option Addr} {rs : List Rl} (h : RulesAt w ao rs) (hb : Below w.heap.size w w') : RulesAt w' ao rs := by
  intro hl
  obtain ⟨g, o, e, hg, hc⟩ := h hl
  refine ⟨g, o, e, Nat.lt_of_lt_of_le hg hb.size, fun k r hr => ?_⟩
  obtain ⟨h1, h2⟩ := hc k r hr
  rw [hb.cell (p := ⟨g, o + k * 2, none⟩) hg, hb.cell (p := ⟨g, o + k * 2 + 1, none⟩) hg]
  exact ⟨h1, h2⟩
abbrev Wd := Bool × List Pt
structure WT where
  ig : Bool
  v : Value
def wtCells (l : List WT) : List Value := l.flatMap fun t => [.bool t.ig, t.v]
def LWd (w : World) (t : WT) (d : Wd) : Prop := t.ig = d.1 ∧ LPts w t.v d.2
def LWs (w : World) (v : Value) (ws : List Wd) : Prop :=
  ∃ tr : List WT, tr.length = ws.length ∧ w.ownsRow 0 63 2 v ws.length (wtCells tr) ∧ ∀ (j : Nat) t d, tr[j]? = some t → ws[j]? = some d → LWd w t d
theorem LWs.below {w w' : World} {v : Value} {ws : List Wd} (h : LWs w v ws) (hb : Below w.heap.size w w') : LWs w' v ws := by
  obtain ⟨tr, hl, ho, he⟩ := h
  exact ⟨tr, hl, owns_below ho hb, fun j t d h1 h2 => ⟨(he j t d h1 h2).1, (he j t d h1 h2).2.below hb⟩⟩
theorem ws_val {w : World} {v : Value} {ws : List Wd} (h : LWs w v ws) : ∃ ao c, v = .slice ao ws.length c := by
  obtain ⟨tr, _, ho, _⟩ := h
  obtain ⟨ao, c, e, _⟩ := owns_view ho
  exact ⟨ao, c, e⟩
theorem ws_at {w : World} {ao : Option Addr} {n c : Nat} {ws : List Wd} (h : LWs w (.slice ao n c) ws) {k : Nat} {d : Wd} (hk : ws[k]? = some d) :
    ∃ g a j cc, ao = some ⟨g, 0, none⟩ ∧ g < w.heap.size ∧ w.cell? ⟨g, k * 2, none⟩ = some (.bool d.1) ∧ w.cell? ⟨g, k * 2 + 1, none⟩ = some (.slice a j cc) ∧ LPts w (.slice a j cc) d.2 := by
  obtain ⟨tr, hl, ho, he⟩ := h
  obtain ⟨hkl, _⟩ := List.getElem?_eq_some_iff.1 hk
  obtain ⟨ao', c', hv, hc⟩ := owns_view ho
  simp only [Value.slice.injEq] at hv
  obtain ⟨rfl, rfl, rfl⟩ := hv
  obtain ⟨g, rfl, hg, _, hcells⟩ := hc (by omega)
  obtain ⟨t, ht⟩ : ∃ t, tr[k]? = some t := ⟨tr[k], List.getElem?_eq_getElem (by omega)⟩
  obtain ⟨h1, h2⟩ := he k t d ht hk
  obtain ⟨c1, c2⟩ := flat2 (fun t : WT => Value.bool t.ig) (fun t : WT => t.v) tr k t ht
  obtain ⟨ig, v⟩ := t
  simp only at h1 h2 c1 c2
  obtain ⟨_, a, cc, hv⟩ := pts_val h2
  subst hv
  exact ⟨g, a, _, cc, rfl, hg, by rw [hcells _ (by omega), ← h1]; exact c1, by rw [hcells _ (by omega)]; exact c2, h2⟩
/-- What the rules say. -/
def rdL (rs : List Rl) : List Wd := rs.filterMap fun r => match patL r.2.data.toList with
  | .error _ => none
  | .ok ps => some (r.1, ps)
theorem rdL_snoc {rs : List Rl} {k : Nat} {r : Rl} (h : rs[k]? = some r) : rdL (rs.take (k + 1)) = rdL (rs.take k) ++ (match patL r.2.data.toList with
    | .error _ => []
    | .ok ps => [(r.1, ps)]) := by
  unfold rdL
  rw [List.take_add_one, h, List.filterMap_append]
  cases hp : patL r.2.data.toList <;> simp [hp]
theorem rdL_len (rs : List Rl) : (rdL rs).length ≤ rs.length := List.length_filterMap_le _ _
theorem rdL_few {rs : List Rl} {d : Wd} (h : d ∈ rdL rs) : Few d.2 := by
  unfold rdL at h
  obtain ⟨r, _, hr⟩ := List.mem_filterMap.1 h
  split at hr
  · cases hr
  · rename_i ps hp
    cases hr
    exact (patL_few hp).1
theorem one_wd (w : World) (a b : Value) : ∀ j u, [a, b][j]? = some u → (w.alloc (.cells #[a, b] 63)).cell? ((⟨w.heap.size, 0, none⟩ : Addr).add j) = some u := by
  intro j u hj
  match j, hj with
  | 0, hj => simp at hj; subst hj; exact World.cell?_alloc_at _ _ _ _ rfl
  | 1, hj => simp at hj; subst hj; exact World.cell?_alloc_at _ _ _ _ rfl
  | j + 2, hj => simp at hj
structure WdRel (rs : List Rl) (w : World) (k : Nat) (acc : List Wd) (v : Value) (tr : List WT) (wr : World) : Prop where
  is : acc = rdL (rs.take k)
  len : tr.length = acc.length
  own : wr.ownsRow w.heap.size 63 2 v acc.length (wtCells tr)
  lie : ∀ (j : Nat) t d, tr[j]? = some t → acc[j]? = some d → LWd wr t d
  below : Below w.heap.size w wr
theorem WdRel.skip {rs : List Rl} {w : World} {k : Nat} {acc : List Wd} {v : Value} {tr : List WT} {wr w2 : World} {r : Rl} {f : Nat} (h : WdRel rs w k acc v tr wr) (hr : rs[k]? = some r) (he : patL r.2.data.toList = .error f) (hb : Below wr.heap.size wr w2) :
    WdRel rs w (k + 1) acc v tr w2 := by
  refine ⟨?_, h.len, owns_below h.own hb, fun j t d h1 h2 => ⟨(h.lie j t d h1 h2).1, (h.lie j t d h1 h2).2.below hb⟩, h.below.trans (hb.mono h.below.size)⟩
  rw [rdL_snoc hr, he, h.is]
  simp
theorem WdRel.next {rs : List Rl} {w : World} {k : Nat} {acc : List Wd} {v : Value} {tr : List WT} {wr w2 w3 : World} {o1 : Obj} {v' pv : Value} {r : Rl} {ps : List Pt} (h : WdRel rs w k acc v tr wr) (hr : rs[k]? = some r) (he : patL r.2.data.toList = .ok ps) (hb : Below wr.heap.size wr w2) (hle : LPts w2 pv ps)
    (hown : w3.ownsRow w.heap.size 63 2 v' (acc.length + 1) (wtCells tr ++ [.bool r.1, pv])) (hg : (w2.alloc o1).grownBy w3 v.ownBlock) :
    WdRel rs w (k + 1) (acc ++ [(r.1, ps)]) v' (tr ++ [⟨r.1, pv⟩]) w3 := by
  have hv : ∀ k, v.ownBlock = some k → w.heap.size ≤ k := fun k hk => (h.own.lt k hk).1
  have hown2 : (w2.alloc o1).ownsRow w.heap.size 63 2 v acc.length (wtCells tr) := (owns_below h.own hb).alloc _
  have k2 : OthersKept 63 none w2 w3 := ((OthersKept.refl _ _ _).alloc _).grown hg (owns_kind hown2)
  have keepP : ∀ v ps, LPts w2 v ps → LPts w3 v ps := fun v ps ⟨tr, hl, ho, hp⟩ => ⟨tr, hl, owns_others ho (by decide) k2, fun j t p h1 h2 => (hp j t p h1 h2).kept (T := 63) (by decide) (by decide) k2⟩
  refine ⟨?_, ?_, ?_, ?_, ?_⟩
  · rw [rdL_snoc hr, he, h.is]
  · simp [h.len]
  · have e : (acc ++ [(r.1, ps)]).length = acc.length + 1 := by simp
    rw [e]
    unfold wtCells at hown ⊢
    rw [flat_snoc]
    exact hown
  · intro j y z hy hz
    by_cases hj : j < acc.length
    · rw [List.getElem?_append_left (by have := h.len; omega)] at hy
      rw [List.getElem?_append_left hj] at hz
      have := h.lie j y z hy hz
      exact ⟨this.1, keepP _ _ (this.2.below hb)⟩
    · obtain ⟨hj2, _⟩ := List.getElem?_eq_some_iff.1 hz
      simp at hj2
      obtain rfl : j = acc.length := by omega
      rw [List.getElem?_append_right (by omega)] at hz
      rw [List.getElem?_append_right (by have := h.len; omega), h.len] at hy
      simp at hy hz
      subst hy hz
      exact ⟨rfl, keepP _ _ hle⟩
  · have hs := hb.size
    have hsw := h.below.size
    have h1 : Below w.heap.size w (w2.alloc o1) := (h.below.trans (hb.mono (by omega))).alloc (by omega) _
    exact h1.grown hg (by simp; omega) (fun k hk => hv k hk)
def WdPost (rs : List Rl) (w : World) (e : Ending) (w' : World) : Prop := ∃ v, e = .returned v ∧ LWs w' v (rdL rs) ∧ Below w.heap.size w w'
set_option maxRecDepth 100000 in
set_option maxHeartbeats 3200000 in
theorem readRules_any (ao : Option Addr) (c : Nat) (rs : List Rl) (w : World) (he : Env w) (hr : RulesAt w ao rs) (hn : rs.length ≤ 1000) (hsz : ∀ r ∈ rs, r.2.size ≤ maxLen) :
    Calls Tryd.prog 22 #[.slice ao rs.length c] w (WdPost rs w) := by
  have He := Lib.hid he
  have HR := Lib.hid hr
  have Hsz := Lib.hid hsz
  clear he hr hsz
  have infoW : (Tryd.prog.info? 63).map (fun i => (i.zero, i.size, i.bytes)) = some (some (.agg #[.bool false, .slice none 0 0]), 2, 32) := by kernel_rfl
  obtain ⟨i0, hi, hz0, hz1, hz2⟩ := info_parts infoW
  clear infoW
  go_enter Tryd.func22, Tryd.ntmps22
  go_wp2_with fail
  go_loopw [10, 3] (fun s10 s3 wr => ∃ (k : Nat) (acc : List Wd) (v : Value) (tr : List WT), k ≤ rs.length ∧ s10 = .int .i64 k ∧ s3 = v ∧ WdRel rs w k acc v tr wr) (fun s10 _ _ => rs.length - (Go.RowKit.intOf s10).toNat)
  case atStart => exact ⟨0, [], .slice none 0 0, [], Nat.zero_le _, rfl, rfl, rfl, rfl, World.ownsRow_nil _ _ _ _, fun j t d h => by simp at h, Below.refl _ _⟩
  case round =>
    obtain ⟨k, acc, v, tr, hk, rfl, rfl, hw⟩ := hrel
    have HW := Lib.hid hw
    obtain ⟨ao2, cc, hv, _⟩ := owns_view hw.own
    subst hv
    have hacc : acc.length ≤ 1000 := by rw [hw.is]; exact Nat.le_trans (rdL_len _) (by rw [List.length_take]; omega)
    have hsw := hw.below.size
    clear hw
    by_cases hlt : k < rs.length
    · obtain ⟨r, hr⟩ : ∃ r, rs[k]? = some r := ⟨rs[k], List.getElem?_eq_getElem hlt⟩
      obtain ⟨g, o, rfl, hg, hc⟩ := HR.out (by omega)
      obtain ⟨d1, d2⟩ := hc k r hr
      have hz : (k : Int) < rs.length := by omega
      have hc1 : wr.cell? ⟨g, o + k * 2, none⟩ = some (.bool r.1) := by rw [HW.out.below.cell (p := ⟨g, o + k * 2, none⟩) hg]; exact d1
      have hc2 : wr.cell? ⟨g, o + k * 2 + 1, none⟩ = some (.string r.2) := by rw [HW.out.below.cell (p := ⟨g, o + k * 2 + 1, none⟩) hg]; exact d2
      have hal : Below wr.heap.size wr (wr.alloc (.cells #[.bool r.1, .string r.2] 31)) := (Below.refl _ _).alloc (Nat.le_refl _) _
      have cP := readPattern_any r.2 _ (He.out.below (HW.out.below.trans (hal.mono HW.out.below.size))) (Hsz.out r (List.mem_of_getElem? hr))
      have Hr := Lib.hid hr
      have Hal := Lib.hid hal
      have q0 := World.cell?_alloc_at (w := wr) #[.bool r.1, .string r.2] 31 wr.heap.size 0 rfl
      have Q0 := Lib.hid q0
      clear hr d1 d2 hc hal q0
      go_wp2_with fail
      refine cP.mono ?_
      rintro e w2 ⟨v, n, rfl, hb2, ⟨pa, pj, pc, hv⟩, h1, h2⟩
      subst hv
      have hb3 : Below wr.heap.size wr w2 := Hal.out.trans (hb2.mono (by simp))
      have hbx : w2.cell? ⟨wr.heap.size, 0, none⟩ = some (.bool r.1) := (hb2.cell (p := ⟨wr.heap.size, 0, none⟩) (by simp)).trans Q0.out
      have Hb3 := Lib.hid hb3
      have hs3 := hb3.size
      cases hp : patL r.2.data.toList with
      | error f =>
        obtain rfl := h1 f hp
        have hfz : ¬ ((f : Nat) : Int) < 0 := by omega
        have HN := Lib.hid (HW.out.skip Hr.out hp Hb3.out)
        clear hb2 hb3 h1 h2 cP hp
        go_wp2_with fail
        go_roundw
        case rel => exact ⟨k + 1, acc, _, tr, by omega, by go_num, rfl, HN.out⟩
        case measure => simp [Go.RowKit.intOf]; omega
      | ok ps =>
        obtain ⟨rfl, hps⟩ := h2 ps hp
        have HO := Lib.hid (owns_below HW.out.own Hb3.out)
        have HN := Lib.hid (fun (w3 : World) (o1 : Obj) (v' : Value) => HW.out.next (w3 := w3) (o1 := o1) (v' := v') Hr.out hp Hb3.out hps)
        clear hb2 hb3 h1 h2 cP hp hps
        go_wp2_with (first | (at_builtin; refine wpList_append_own _ rfl _ _ 44 rfl w.heap.size 63 i0 (.agg #[.bool false, .slice none 0 0]) 2 32 Tryd.underlying44 hi hz0 hz1 hz2 rfl (by decide) _ _ _ rfl (HO.out.alloc _) ⟨w2.heap.size, 0, none⟩ 1 1 [.bool r.1, .slice pa pj pc] rfl rfl (one_wd w2 (.bool r.1) (.slice pa pj pc)) (fun y hy => by simp at hy; rcases hy with rfl | rfl <;> rfl) (by unfold maxLen; omega) (by omega) (by simp; omega) ?_; intro v' w4 hown4 hgrow4 hnil4; obtain ⟨ao4, cc4, hv4, _⟩ := owns_view hown4; subst hv4; have Hown4 := Lib.hid hown4; have Hgrow4 := Lib.hid hgrow4; clear hown4 hgrow4 hnil4))
        go_roundw
        case rel => exact ⟨k + 1, _, _, _, by omega, by go_num, rfl, HN.out w4 _ _ Hown4.out Hgrow4.out⟩
        case measure => simp [Go.RowKit.intOf]; omega
    · have hz : ¬ (k : Int) < rs.length := by omega
      have hek : Hid (acc = rdL rs) := Lib.hid (by rw [HW.out.is, List.take_of_length_le (by omega)])
      go_wp2_with fail
      go_ret
      refine ⟨_, rfl, ?_, HW.out.below⟩
      rw [← hek.out]
      exact ⟨tr, HW.out.len, owns_base HW.out.own 0 (Nat.zero_le _), HW.out.lie⟩

/- lastWord -/
def lwL (ws : List Wd) (ns : List (List UInt8)) : Bool := ws.foldl (fun b d => if matchL d.2 ns = true then d.1 else b) false
theorem lwL_hit {ws : List Wd} {ns : List (List UInt8)} {k : Nat} {d : Wd} (h : ws[k]? = some d) (hm : matchL d.2 ns = true) (hl : lwL ws ns = lwL (ws.take (k + 1)) ns) : lwL ws ns = d.1 := by
  rw [hl]
  unfold lwL
  rw [List.take_add_one, h, List.foldl_append]
  simp [hm]
theorem lwL_miss {ws : List Wd} {ns : List (List UInt8)} {k : Nat} {d : Wd} (h : ws[k]? = some d) (hm : matchL d.2 ns = false) (hl : lwL ws ns = lwL (ws.take (k + 1)) ns) : lwL ws ns = lwL (ws.take k) ns := by
  rw [hl]
  unfold lwL
  rw [List.take_add_one, h, List.foldl_append]
  simp [hm]
def BoolPost (b : Bool) (w : World) (e : Ending) (w' : World) : Prop := e = .returned (.bool b) ∧ Below w.heap.size w w'
set_option maxRecDepth 100000 in
set_option maxHeartbeats 1600000 in
theorem lastWord_any (vw : Value) (ws : List Wd) (hf : ∀ d ∈ ws, Few d.2) (hwl : ws.length ≤ 1000) (xs : List ByteArray) (hxs : ∀ x ∈ xs, x.size ≤ maxLen) (hxl : xs.length ≤ 1000) (h0 : 0 < xs.length) (gn cn : Nat) (hcn : xs.length ≤ cn) (w : World) (hw : LWs w vw ws) (hn : NamesAt w gn 0 xs) :
    Calls Tryd.prog 23 #[vw, .slice (some ⟨gn, 0, none⟩) xs.length cn] w (BoolPost (lwL ws (xs.map (·.data.toList))) w) := by
  obtain ⟨ao, c, rfl⟩ := ws_val hw
  have HW := Lib.hid hw
  have HN := Lib.hid hn
  clear hw hn
  go_enter Tryd.func23, Tryd.ntmps23
  go_wp2_with fail
  go_loopw [5] (fun s5 wr => ∃ k : Nat, k ≤ ws.length ∧ s5 = .int .i64 ((k : Int) - 1) ∧ lwL ws (xs.map (·.data.toList)) = lwL (ws.take k) (xs.map (·.data.toList)) ∧ Below w.heap.size w wr) (fun s5 _ => ((Go.RowKit.intOf s5) + 1).toNat)
  case atStart => exact ⟨ws.length, Nat.le_refl _, by go_num, by rw [List.take_length], Below.refl _ _⟩
  case round =>
    obtain ⟨k, hk, rfl, hl, hb⟩ := hrel
    have Hl := Lib.hid hl
    have Hb := Lib.hid hb
    clear hl hb
    by_cases hk0 : k = 0
    · subst hk0
      go_wp2_with fail
      go_ret
      exact ⟨by rw [Hl.out]; rfl, Hb.out⟩
    · obtain ⟨j, rfl⟩ : ∃ j, k = j + 1 := ⟨k - 1, by omega⟩
      have ej : ((j + 1 : Nat) : Int) - 1 = j := by omega
      rw [ej]
      clear ej hk0
      obtain ⟨d, hd⟩ : ∃ d, ws[j]? = some d := ⟨ws[j]'(by omega), List.getElem?_eq_getElem (by omega)⟩
      obtain ⟨g, a, pj, pc, hao, hg, c1, c2, hp⟩ := ws_at (HW.out.below Hb.out) hd
      subst hao
      have hj0 : (0 : Int) ≤ (j : Int) := by omega
      have hjl : (j : Int) < ws.length := by omega
      have cM := matches_any d.2 (hf d (List.mem_of_getElem? hd)) xs hxs hxl (.slice a pj pc) gn cn wr hp ((cells_below Hb.out).names Hb.out.size HN.out) h0 hcn
      have Hd := Lib.hid hd
      clear hd hp
      go_wp2_with fail
      refine cM.mono ?_
      rintro e w2 ⟨rfl, hb2⟩
      have c3 : w2.cell? ⟨g, j * 2, none⟩ = some (.bool d.1) := (hb2.cell (p := ⟨g, j * 2, none⟩) hg).trans c1
      have Hb2 := Lib.hid (Hb.out.trans (hb2.mono Hb.out.size))
      clear hb2 cM
      cases hm : matchL d.2 (xs.map (·.data.toList))
      · have HF := Lib.hid (lwL_miss Hd.out hm Hl.out)
        clear hm
        go_wp2_with fail
        go_roundw
        case rel => exact ⟨j, by omega, by go_num, HF.out, Hb2.out⟩
        case measure => simp [Go.RowKit.intOf] <;> omega
      · have HF := Lib.hid (lwL_hit Hd.out hm Hl.out)
        clear hm
        go_wp2_with fail
        go_ret
        exact ⟨by rw [HF.out]; rfl, Hb2.out⟩

/- Ignored -/
def ignN (ws : List Wd) (ns : List (List UInt8)) : Bool := (List.range ns.length).any fun k => lwL ws (ns.take (k + 1))
def ignL (rs : List Rl) (q : List UInt8) : Bool := ignN (rdL rs) (namesL q)
theorem ignN_hit {ws : List Wd} {ns : List (List UInt8)} {k : Nat} (hk : k < ns.length) (h : lwL ws (ns.take (k + 1)) = true) : ignN ws ns = true := by
  unfold ignN
  rw [List.any_eq_true]
  exact ⟨k, List.mem_range.2 hk, h⟩
theorem ignN_none {ws : List Wd} {ns : List (List UInt8)} (h : ∀ k, k < ns.length → lwL ws (ns.take (k + 1)) = false) : ignN ws ns = false := by
  unfold ignN
  rw [List.any_eq_false]
  intro k hk
  rw [h k (List.mem_range.1 hk)]
  simp
set_option maxRecDepth 100000 in
set_option maxHeartbeats 1600000 in
theorem ignored_any (ao : Option Addr) (c : Nat) (rs : List Rl) (q : ByteArray) (w : World) (he : Env w) (hr : RulesAt w ao rs) (hn : rs.length ≤ 1000) (hsz : ∀ r ∈ rs, r.2.size ≤ maxLen) (hq : q.size ≤ maxLen) :
    Calls Tryd.prog 10 #[.slice ao rs.length c, .string q] w (BoolPost (ignL rs q.data.toList) w) := by
  have He := Lib.hid he
  have HR := Lib.hid hr
  have Hsz := Lib.hid hsz
  clear he hr hsz
  by_cases hpq : NP.pathL q.data.toList = true
  · have cS := split_yes q w He.out hq hpq
    have hq4 : q.data.toList.length ≤ 400 := path_short hpq
    have HF : Hid (ignL rs q.data.toList = ignN (rdL rs) (NP.cutOn q.data.toList)) := Lib.hid (by unfold ignL; rw [names_yes hpq])
    clear hpq
    go_enter Tryd.func10, Tryd.ntmps10
    go_wp2_with fail
    refine cS.mono ?_
    rintro e w1 ⟨bk, xs, rfl, hx1, hx2, hx3, hx4, _, hb1⟩
    have hct : q.data.toList.count 47 ≤ q.data.toList.length := List.count_le_length
    have hxl : xs.length ≤ 401 := by omega
    have cR := readRules_any ao c rs w1 (He.out.below hb1) (HR.out.below hb1) hn Hsz.out
    have Hb1 := Lib.hid hb1
    have HN : Hid (NamesAt w1 bk 0 xs) := Lib.hid ⟨hx4.block, hx4.cells⟩
    have Hx1 := Lib.hid hx1
    have Hx2 := Lib.hid hx2
    clear hb1 hx1 hx2 hx3 hx4 hct cS
    go_wp2_with fail
    refine cR.mono ?_
    rintro e w2 ⟨v, rfl, hws, hb2⟩
    obtain ⟨wao, wc, hv⟩ := ws_val hws
    subst hv
    have HN2 := Lib.hid ((cells_below hb2).names hb2.size HN.out)
    have Hws := Lib.hid hws
    have Hb2 := Lib.hid (Hb1.out.trans (hb2.mono Hb1.out.size))
    have hwl : (rdL rs).length ≤ 1000 := Nat.le_trans (rdL_len rs) hn
    clear hws hb2 cR
    go_wp2_with fail
    go_loopw [14] (fun s14 wr => ∃ k : Nat, k ≤ xs.length ∧ s14 = .int .i64 k ∧ (∀ j, j < k → lwL (rdL rs) ((NP.cutOn q.data.toList).take (j + 1)) = false) ∧ Below w2.heap.size w2 wr) (fun s14 _ => xs.length - (Go.RowKit.intOf s14).toNat)
    case atStart => exact ⟨0, Nat.zero_le _, rfl, fun j hj => by omega, Below.refl _ _⟩
    case round =>
      obtain ⟨k, hk, rfl, hno, hb⟩ := hrel
      have Hno := Lib.hid hno
      have Hb := Lib.hid hb
      clear hno hb
      by_cases hlt : k < xs.length
      · have hz : (k : Int) < xs.length := by omega
        have hz1 : (k : Int) + 1 ≤ xs.length := by omega
        have hlen : (xs.take (k + 1)).length = k + 1 := by rw [List.length_take]; omega
        have hmap : (xs.take (k + 1)).map (·.data.toList) = (NP.cutOn q.data.toList).take (k + 1) := by rw [List.map_take, Hx1.out]
        have cW := lastWord_any (.slice wao (rdL rs).length wc) (rdL rs) (fun d hd => rdL_few hd) hwl (xs.take (k + 1)) (fun x hx => by have := Hx2.out x (List.mem_of_mem_take hx); rw [Lib.size_eq q] at this; unfold maxLen; omega) (by omega) (by omega) bk xs.length (by omega) wr (Hws.out.below Hb.out)
          ((cells_below Hb.out).names Hb.out.size ⟨HN2.out.1, fun j x hx => HN2.out.2 j x (by rw [List.getElem?_take] at hx; split at hx; exact hx; cases hx)⟩)
        rw [hlen, hmap] at cW
        have hxlc : Hid (xs.length = (NP.cutOn q.data.toList).length) := Lib.hid (by rw [← Hx1.out, List.length_map])
        clear hlen hmap
        go_wp2_with fail
        refine cW.mono ?_
        rintro e w3 ⟨rfl, hb3⟩
        have Hb3 := Lib.hid (Hb.out.trans (hb3.mono Hb.out.size))
        clear hb3 cW
        cases hm : lwL (rdL rs) ((NP.cutOn q.data.toList).take (k + 1))
        · have HN3 : Hid (∀ j, j < k + 1 → lwL (rdL rs) ((NP.cutOn q.data.toList).take (j + 1)) = false) := Lib.hid (fun j hj => by
            by_cases e : j = k
            · rw [e]; exact hm
            · exact Hno.out j (by omega))
          clear hm
          go_wp2_with fail
          go_roundw
          case rel => exact ⟨k + 1, by omega, by go_num, HN3.out, Hb3.out⟩
          case measure => simp [Go.RowKit.intOf]; omega
        · have HI := Lib.hid (ignN_hit (by rw [← hxlc.out]; exact hlt) hm)
          clear hm
          go_wp2_with fail
          go_ret
          exact ⟨by rw [HF.out, HI.out]; rfl, Hb2.out.trans (Hb3.out.mono Hb2.out.size)⟩
      · have hz : ¬ (k : Int) < xs.length := by omega
        have HI : Hid (ignN (rdL rs) (NP.cutOn q.data.toList) = false) := Lib.hid (ignN_none (fun j hj => Hno.out j (by rw [← Hx1.out, List.length_map] at hj; omega)))
        go_wp2_with fail
        go_ret
        exact ⟨by rw [HF.out, HI.out]; rfl, Hb2.out.trans (Hb.out.mono Hb2.out.size)⟩
  · have hpf : NP.pathL q.data.toList = false := by simpa using hpq
    have cS := split_no q w He.out hq hpf
    have HF : Hid (ignL rs q.data.toList = false) := Lib.hid (by unfold ignL; rw [names_no hpf]; rfl)
    clear hpq hpf
    go_enter Tryd.func10, Tryd.ntmps10
    go_wp2_with fail
    refine cS.mono ?_
    rintro e w1 ⟨rfl, hb1⟩
    have cR := readRules_any ao c rs w1 (He.out.below hb1) (HR.out.below hb1) hn Hsz.out
    have Hb1 := Lib.hid hb1
    clear hb1 cS
    go_wp2_with fail
    refine cR.mono ?_
    rintro e w2 ⟨v, rfl, hws, hb2⟩
    have Hb2 := Lib.hid (Hb1.out.trans (hb2.mono Hb1.out.size))
    clear hws hb2 cR
    go_wp2_with fail
    go_loop [14] (fun s14 => s14 = .int .i64 0) (fun _ => 0)
    case atStart => rfl
    case round =>
      subst hrel
      go_wp2_with fail
      go_ret
      exact ⟨by rw [HF.out]; rfl, Hb2.out⟩
end GI
end Go.Proofs.YtkfddnkeoopfbaaDoor
