/- Layer 12: the document's names: of three lists, each once, in their order (by insertion). -/
import Derived.Test.YtmpmmebmhffaeaaGreatDoorQRtA
set_option linter.all false
set_option maxRecDepth 100000
set_option maxHeartbeats 25600000
namespace Go.Proofs.YtmpmmebmhffaeaaGreatDoor
open Go.RowKit Go.Lib Go.Maps Go.BigFrame Go.Sort
namespace RC
open OM TP TM TR TG TW NP

/-- A text put in its place. -/
def putAt (l : List (List UInt8)) (k : Nat) (d : List UInt8) : List (List UInt8) := l.take k ++ d :: l.drop k
theorem put_len {l : List (List UInt8)} {k : Nat} (h : k ≤ l.length) (d : List UInt8) : (putAt l k d).length = l.length + 1 := by
  unfold putAt
  rw [List.length_append, List.length_cons, List.length_take, List.length_drop]
  omega
theorem put_set {l : List (List UInt8)} {k : Nat} (h : k ≤ l.length) (d x : List UInt8) : (putAt l k d).set k x = putAt l k x := by
  unfold putAt
  rw [List.set_append_right _ _ (by rw [List.length_take]; omega), List.length_take, Nat.min_eq_left h, Nat.sub_self]
  rfl
theorem put_down {l : List (List UInt8)} {k : Nat} {y : List UInt8} (hy : l[k]? = some y) : putAt l (k + 1) y = putAt l k y := by
  obtain ⟨hl, e⟩ := List.getElem?_eq_some_iff.1 hy
  unfold putAt
  rw [List.take_add_one, hy, List.drop_eq_getElem_cons hl, e]
  simp
theorem put_end (l : List (List UInt8)) (d : List UInt8) : putAt l l.length d = l ++ [d] := by unfold putAt; simp
theorem put_below {l : List (List UInt8)} {k j : Nat} {d y : List UInt8} (h : j < k) (hy : l[j]? = some y) : (putAt l k d)[j]? = some y := by
  have hj := (List.getElem?_eq_some_iff.1 hy).1
  unfold putAt
  rw [List.getElem?_append_left (by rw [List.length_take]; omega), List.getElem?_take_of_lt h]
  exact hy
theorem ins_at (x : List UInt8) : ∀ (l : List (List UInt8)) (at_ : Nat), at_ ≤ l.length → (∀ y ∈ l.take at_, lexB y x = true) → (∀ y, l[at_]? = some y → lexB y x = false) → insK x l = if l[at_]? = some x then l else putAt l at_ x
  | [], at_, h, _, _ => by
    obtain rfl : at_ = 0 := by simpa using h
    rfl
  | y :: l, 0, _, _, h2 => by
    have h3 := h2 y rfl
    unfold insK
    by_cases e : y = x
    · subst e
      rw [lex_irr]
      simp
    · have := lex_total h3 e
      rw [this, if_pos rfl, if_neg (by simpa using e)]
      rfl
  | y :: l, a + 1, h, h1, h2 => by
    have h3 := h1 y (by rw [List.take_succ_cons]; exact List.mem_cons_self ..)
    have ih := ins_at x l a (by simpa using h) (fun z hz => h1 z (by rw [List.take_succ_cons]; exact List.mem_cons_of_mem _ hz)) (fun z hz => h2 z (by rw [List.getElem?_cons_succ]; exact hz))
    have hn : lexB x y = false := Bool.eq_false_iff.2 fun e => by
      have := lex_trans h3 e
      rw [lex_irr] at this
      cases this
    have hne : x ≠ y := fun e => by rw [e, lex_irr] at h3; cases h3
    unfold insK
    rw [hn, if_neg (by simp), if_neg hne, ih, List.getElem?_cons_succ]
    split
    · rfl
    · rfl
theorem ord_snoc (l : List (List UInt8)) (x : List UInt8) : ordK (l ++ [x]) = insK x (ordK l) :=
  sortedK_ext (sorted_ordK _) (sorted_insK x _ (sorted_ordK l)) fun z => by
    rw [mem_ordK, mem_insK, mem_ordK, List.mem_append, List.mem_singleton]
    exact Or.comm
theorem ordK_len : ∀ l : List (List UInt8), (ordK l).length ≤ l.length
  | [] => Nat.le_refl _
  | x :: l => by
    have key : ∀ m : List (List UInt8), (insK x m).length ≤ m.length + 1 := by
      intro m
      induction m with
      | nil => exact Nat.le_refl _
      | cons y m ih =>
        unfold insK
        split
        · simp
        · split
          · simp
          · rw [List.length_cons, List.length_cons]; omega
    have := key (ordK l)
    have := ordK_len l
    show (insK x (ordK l)).length ≤ l.length + 1
    omega
/-- A slice of texts lies there. -/
def LayS (W : World) (ao : Option Addr) (l : List (List UInt8)) : Prop := 0 < l.length → ∃ g, ao = some ⟨g, 0, none⟩ ∧ g < W.heap.size ∧ ∀ (i : Nat) (x : List UInt8), l[i]? = some x → W.cell? ⟨g, i, none⟩ = some (txt x)
theorem LayS.below {W W' : World} {ao : Option Addr} {l : List (List UInt8)} (h : LayS W ao l) (hb : Below W.heap.size W W') : LayS W' ao l := fun h0 => by
  obtain ⟨g, e, hlt, hc⟩ := h h0
  exact ⟨g, e, Nat.lt_of_lt_of_le hlt hb.size, fun i x hi => (hb.cell (p := ⟨g, i, none⟩) hlt).trans (hc i x hi)⟩
theorem lay_texts {w : World} {B : Nat} {v : Value} {l : List (List UInt8)} (h : w.ownsRow B 9 1 v l.length (l.map txt)) : ∃ ao c, v = .slice ao l.length c ∧ LayS w ao l := by
  obtain ⟨ao, c, rfl, hx⟩ := owns_view h
  refine ⟨ao, c, rfl, fun h0 => ?_⟩
  obtain ⟨g, rfl, hg, _, hc⟩ := hx h0
  refine ⟨g, rfl, hg, fun k n hk => ?_⟩
  have hkl := (List.getElem?_eq_some_iff.1 hk).1
  refine (hc k (by omega)).trans ?_
  rw [List.getElem?_map, hk]
  rfl
theorem row_set {W : World} {g j : Nat} {cur : Array Value} {t : TypeId} {fr : Nat × Nat} (h : W.heap[g]? = some (.cells cur t fr)) (u : Value) : (W.setCell ⟨g, j, none⟩ u).heap[g]? = some (.cells (cur.setIfInBounds j u) t fr) := by
  simp [World.setCell, Array.getElem?_modify, h]
theorem own_set {w : World} {B t size n c g : Nat} {xs : List Value} (h : w.ownsRow B t size (.slice (some ⟨g, 0, none⟩) n c) n xs) (h0 : 0 < n) (j : Nat) (u : Value) : (w.setCell ⟨g, j, none⟩ u).ownsRow B t size (.slice (some ⟨g, 0, none⟩) n c) n (xs.set j u) := by
  refine ⟨by rw [List.length_set]; exact h.1, ?_⟩
  rcases h.2 with ⟨_, h1⟩ | ⟨g', c', cur, h1, hb, h2, h3, h4, h5, h6⟩
  · omega
  · injection h1 with e1 _ e3
    injection e1 with e1
    injection e1 with e1 _ _
    subst e1 e3
    refine .inr ⟨g, c, cur.setIfInBounds j u, rfl, hb, row_set (j := j) h2 u, h3, h4, by rw [Array.size_setIfInBounds]; exact h5, ?_⟩
    rw [Array.toList_setIfInBounds, List.take_set, h6]
theorem own_cell {w : World} {B t size n c g : Nat} {xs : List Value} (h : w.ownsRow B t size (.slice (some ⟨g, 0, none⟩) n c) n xs) {j : Nat} {u : Value} (hu : xs[j]? = some u) : w.cell? ⟨g, j, none⟩ = some u ∧ w.frozen? ⟨g, j, none⟩ = false := by
  have hj := (List.getElem?_eq_some_iff.1 hu).1
  rcases h.2 with ⟨_, h1⟩ | ⟨g', c', cur, h1, hb, h2, h3, h4, h5, h6⟩
  · rw [h.1, h1] at hj
    omega
  · injection h1 with e1 _ e3
    injection e1 with e1
    injection e1 with e1 _ _
    subst e1 e3
    refine ⟨?_, frozen_of_row w g j _ _ h2⟩
    rw [cell_of_row w g j _ _ _ h2, ← Array.getElem?_toList, ← hu, ← h6, List.getElem?_take_of_lt (by rw [← h.1]; exact hj)]

theorem infoTx : (Tryz.prog.info? 9).map (fun i => (i.zero, i.size, i.bytes)) = some (some (.string ByteArray.empty), 1, 16) := by kernel_rfl
theorem txt_one (l : List (List UInt8)) : ∀ u ∈ l.map txt, u.oneCell' = true := by
  intro u hu
  obtain ⟨x, _, rfl⟩ := List.mem_map.1 hu
  rfl
set_option maxRecDepth 100000 in
/-- A list of texts appended to one of the call's own. -/
theorem app_texts (W : World) (base : Nat) (ao : Option Addr) (cap n k : Nat) (l m : List (List UInt8)) (v : Value) (hl : LayS W ao l) (hown : W.ownsRow base 9 1 v k (m.map txt)) (hb : base ≤ W.heap.size) (hn : n ≤ 3003) (hk : k ≤ 6006) (hnn : l.length = n) (hnz : ao = none → n = 0) :
    ∃ v' w', (Builtin.append_ #[59, 59] 59 #[v, .slice ao n cap]).run Tryz.prog W = .ok v' w' ∧ w'.ownsRow base 9 1 v' (k + n) ((m ++ l).map txt) ∧ W.grownBy w' v.ownBlock := by
  obtain ⟨i1, hi1, hy0, hy1, hy2⟩ := info_parts infoTx
  subst hnn
  by_cases h0 : 0 < l.length
  · obtain ⟨g, e, hlt, hc⟩ := hl h0
    subst e
    obtain ⟨v', w', h1, h2, h3, -⟩ := run_append_own (P := Tryz.prog) W base 59 59 9 i1 _ 1 16 Tryz.underlying59 hi1 hy0 hy1 hy2 rfl (by decide) v k (m.map txt) hown ⟨g, 0, none⟩ l.length cap (l.map txt) (by rw [List.length_map, Nat.mul_one]) (fun j u hu => by
      rw [List.getElem?_map] at hu
      cases hx : l[j]? with
      | none => rw [hx] at hu; cases hu
      | some x =>
        rw [hx] at hu
        injection hu with hu
        rw [← hu, show (⟨g, 0, none⟩ : Addr).add j = ⟨g, j, none⟩ by simp [Addr.add]; exact fun h => h.symm]
        exact hc j x hx) (txt_one l) (by unfold maxLen; omega) (by omega) hb
    rw [← List.map_append] at h2
    exact ⟨v', w', h1, h2, h3⟩
  · obtain rfl : l = [] := by cases l with | nil => rfl | cons _ _ => simp at h0
    rw [List.append_nil]
    cases ao with
    | some a0 =>
      obtain ⟨v', w', h1, h2, h3, -⟩ := run_append_own (P := Tryz.prog) W base 59 59 9 i1 _ 1 16 Tryz.underlying59 hi1 hy0 hy1 hy2 rfl (by decide) v k (m.map txt) hown a0 0 cap [] rfl (fun j u hu => by simp at hu) (fun u hu => by simp at hu) (by unfold maxLen; omega) (by omega) hb
      rw [List.append_nil] at h2
      exact ⟨v', w', h1, h2, h3⟩
    | none =>
      refine ⟨v, W, ?_, hown, ⟨rfl, rfl, rfl, Nat.le_refl _, fun _ _ _ => rfl⟩⟩
      show (Builtin.append_ #[59, 59] 59 #[v, .slice none 0 cap]).run Tryz.prog W = .ok v W
      rcases hown.2 with ⟨rfl, h4⟩ | ⟨g, cap', cur, rfl, _, _, hnc, _⟩
      · subst h4
        simp [Builtin.append_, run_underlying Tryz.underlying59, sizeOf, typeInfo, hi1, Builtin.lenOf, Builtin.firstCells]
      · simp [Builtin.append_, run_underlying Tryz.underlying59, sizeOf, typeInfo, hi1, Builtin.lenOf, Builtin.firstCells, hnc, storeCells]
theorem bytes_lex : ∀ a b : List UInt8, Op.bytesLess a b = lexB a b
  | [], [] => rfl
  | [], _ :: _ => rfl
  | _ :: _, [] => rfl
  | x :: a, y :: b => by
    unfold Op.bytesLess lexB
    rw [bytes_lex a b]
    congr 1
theorem one_text (W : World) (d : List UInt8) : ∀ (j : Nat) (u : Value), [txt d][j]? = some u → (W.alloc (.cells #[txt d] 9)).cell? ((⟨W.heap.size, 0, none⟩ : Addr).add j) = some u := by
  intro j u hu
  have hh := heap_alloc_new W (.cells #[txt d] 9)
  match j, hu with
  | 0, hu =>
    simp at hu
    subst hu
    show (W.alloc (.cells #[txt d] 9)).cell? ⟨W.heap.size, 0, none⟩ = _
    exact (cell_of_row (W.alloc (.cells #[txt d] 9)) W.heap.size 0 _ _ _ hh).trans rfl
theorem owns_low {w : World} {B B' t size n : Nat} {v : Value} {xs : List Value} (h : w.ownsRow B t size v n xs) (hb : B' ≤ B) : w.ownsRow B' t size v n xs := by
  refine ⟨h.1, ?_⟩
  rcases h.2 with h1 | ⟨g, c, cur, h1, h2, h3⟩
  · exact .inl h1
  · exact .inr ⟨g, c, cur, h1, Nat.le_trans hb h2, h3⟩
theorem step_app_l {P : Program} {w : World} {ops : Array Oper} {rest : List Oper} {o : Oper} {a : Act} {Q : Exit → Act → World → Prop} (hgd : o.guard = none) (s x : Operand) (t t2 : TypeId)
    (ho : o.op = .call { callee := .builtin .append, args := #[s, x], argTypes := #[t, t2] }) (u v : Value) (hs : a.eval s = u) (hx : a.eval x = v) {v' : Value} {w' : World}
    (hr : (Builtin.append_ #[t, t2] o.type #[u, v]).run P w = .ok v' w') (h : wpList P ops Q rest (a.put o.dst v') w') : wpList P ops Q (o :: rest) a w := by
  refine wpList_plain hgd fun K hK => ?_
  unfold Oper.wp
  simp [execOp, ho, resolve, invoke, builtin, hs, hx, hr, Result.andThen]
  exact hK _ _ h
def NamesIn (W : World) (base : Nat) (v : Value) (l : List (List UInt8)) : Prop := W.ownsRow base 9 1 v l.length (l.map txt)
set_option maxRecDepth 100000 in
set_option maxHeartbeats 12800000 in
theorem rnames12_any (ax ay az : Option Addr) (cx cy cz : Nat) (X Y Z : List (List UInt8)) (w : World) (hx : LayS w ax X) (hy : LayS w ay Y) (hz : LayS w az Z) (lx : X.length ≤ 1001) (ly : Y.length ≤ 1001) (lz : Z.length ≤ 1001) :
    Calls Tryz.prog 31 #[.slice ax X.length cx, .slice ay Y.length cy, .slice az Z.length cz] w fun r w' => ∃ v, r = .returned v ∧ w'.ownsRow w.heap.size 9 1 v (ordK (X ++ Y ++ Z)).length ((ordK (X ++ Y ++ Z)).map txt) ∧ Below w.heap.size w w' := by
  have HX := Lib.hid hx
  have HY := Lib.hid hy
  have HZ := Lib.hid hz
  have E0 : (w.alloc (.cells #[] 9)).ownsRow w.heap.size 9 1 (.slice (some ⟨w.heap.size, 0, none⟩) 0 0) 0 (([] : List (List UInt8)).map txt) := World.ownsRow_made (base := w.heap.size) (e := 9) (size := 1) w #[] 0 (Nat.le_refl _) (Nat.zero_le _) rfl
  have b0 : Below w.heap.size w (w.alloc (.cells #[] 9)) := (Below.refl _ _).alloc (Nat.le_refl _) _
  have nn : ∀ {ao : Option Addr} {l : List (List UInt8)}, LayS w ao l → ao = none → l.length = 0 := fun h e => by
    rcases Nat.eq_zero_or_pos _ with h0 | h0
    · exact h0
    · obtain ⟨g, e2, _⟩ := h h0
      rw [e] at e2
      cases e2
  obtain ⟨v1, w1, hrun1, ho1, hg1⟩ := app_texts _ w.heap.size ax cx X.length 0 X [] _ (hx.below b0) E0 b0.size (by omega) (by omega) rfl (nn hx)
  have b1 := b0.grown hg1 b0.size (fun j hj => (E0.lt j hj).1)
  obtain ⟨v2, w2, hrun2, ho2, hg2⟩ := app_texts w1 w.heap.size ay cy Y.length _ Y _ _ (hy.below b1) ho1 b1.size (by omega) (by omega) rfl (nn hy)
  have b2 := b1.grown hg2 b1.size (fun j hj => (ho1.lt j hj).1)
  obtain ⟨v3, w3, hrun3, ho3, hg3⟩ := app_texts w2 w.heap.size az cz Z.length _ Z _ _ (hz.below b2) ho2 b2.size (by omega) (by omega) rfl (nn hz)
  have b3 := b2.grown hg3 b2.size (fun j hj => (ho2.lt j hj).1)
  rw [List.nil_append] at ho3
  obtain ⟨A, hA⟩ : ∃ A, X ++ Y ++ Z = A := ⟨_, rfl⟩
  rw [hA] at ho3 ⊢
  have hAl : A.length ≤ 3003 := by rw [← hA]; simp only [List.length_append]; omega
  have ho3 : w3.ownsRow w.heap.size 9 1 v3 A.length (A.map txt) := by
    have e : 0 + X.length + Y.length + Z.length = A.length := by rw [← hA]; simp only [List.length_append]; omega
    rw [← e]
    exact ho3
  obtain ⟨a3, c3, rfl, hl3⟩ := lay_texts ho3
  obtain ⟨nx, hnx⟩ : ∃ n, X.length = n := ⟨_, rfl⟩
  obtain ⟨ny, hny⟩ : ∃ n, Y.length = n := ⟨_, rfl⟩
  obtain ⟨nz, hnz⟩ : ∃ n, Z.length = n := ⟨_, rfl⟩
  obtain ⟨na, hna⟩ : ∃ n, A.length = n := ⟨_, rfl⟩
  have HNa := Lib.hid hna
  rw [hnx] at hrun1
  rw [hny] at hrun2
  rw [hnz, hna] at hrun3
  rw [hna] at hAl
  rw [hnx, hny, hnz]
  have L3 := Lib.hid hl3
  have B3 := Lib.hid b3
  clear hx hy hz lx ly lz E0 b0 nn ho1 hg1 b1 ho2 hg2 b2 ho3 hg3 b3 hA hnx hny hnz hna hl3 HX HY HZ
  go_enter Tryz.func31, Tryz.ntmps31
  repeat (first
    | (at_builtin; refine step_app_l rfl (.tmp 12) (.tmp 13) 59 59 rfl (.slice (some ⟨w.heap.size, 0, none⟩) 0 0) (.slice ax nx cx) rfl rfl hrun1 ?_; clear hrun1)
    | (at_builtin; refine step_app_l rfl (.tmp 14) (.tmp 15) 59 59 rfl v1 (.slice ay ny cy) rfl rfl hrun2 ?_; clear hrun2)
    | (at_builtin; refine step_app_l rfl (.tmp 16) (.tmp 17) 59 59 rfl v2 (.slice az nz cz) rfl rfl hrun3 ?_; clear hrun3)
    | go_skip | go_guarded | go_step | go_upon)
  have h0 : Hid (w3.ownsRow w3.heap.size 9 1 (.slice none 0 0) (ordK (A.take 0)).length ((ordK (A.take 0)).map txt)) := Lib.hid (World.ownsRow_nil _ _ _ _)
  go_loopw [8, 9] (fun s8 s9 wr => ∃ i : Nat, s9 = .int .i64 i ∧ i ≤ na ∧ wr.ownsRow w3.heap.size 9 1 s8 (ordK (A.take i)).length ((ordK (A.take i)).map txt) ∧ Below w3.heap.size w3 wr) (fun _ s9 _ => na - (Go.RowKit.intOf s9).toNat)
  case atStart => exact ⟨0, rfl, Nat.zero_le _, h0.out, Below.refl _ _⟩
  case round =>
    obtain ⟨i, rfl, hi, ho, hb⟩ := hrel
    by_cases hlt : i < na
    · have hiz : (i : Int) < na := by omega
      obtain ⟨g3, rfl, hg3, hc3⟩ := L3.out (by rw [HNa.out]; omega)
      obtain ⟨x, hx⟩ : ∃ x, A[i]? = some x := ⟨A[i]'(by rw [HNa.out]; exact hlt), List.getElem?_eq_getElem _⟩
      have hxc := hc3 i x hx
      have HXc : Hid (∀ W, Below w3.heap.size w3 W → W.cell? ⟨g3, i, none⟩ = some (txt x)) := Lib.hid (fun W hW => (hW.cell (p := ⟨g3, i, none⟩) hg3).trans hxc)
      have hord : ordK (A.take (i + 1)) = insK x (ordK (A.take i)) := by rw [List.take_add_one, hx]; exact ord_snoc _ _
      have hll : (ordK (A.take i)).length ≤ 3003 := Nat.le_trans (ordK_len _) (by rw [List.length_take]; omega)
      obtain ⟨L, hL⟩ : ∃ L, ordK (A.take i) = L := ⟨_, rfl⟩
      rw [hL] at ho hord hll
      have HOr := Lib.hid hord
      obtain ⟨aL, cL, rfl, hlL⟩ := lay_texts ho
      have HL := Lib.hid hlL
      have HO := Lib.hid ho
      have HB := Lib.hid hb
      obtain ⟨nl, hnl⟩ : ∃ n, L.length = n := ⟨_, rfl⟩
      have HNl := Lib.hid hnl
      rw [hnl] at hll ⊢
      clear hc3 hx hxc hord hL ho hlL hb hnl
      have t0 : Hid (∀ y ∈ L.take 0, lexB y x = true) := Lib.hid (fun y hy => by simp at hy)
      repeat (first | go_skip | go_guarded | go_step | go_upon)
      obtain ⟨wr_o, hwr⟩ : ∃ W, wr = W := ⟨_, rfl⟩
      rw [hwr] at HL HO HB ⊢
      clear hwr
      go_loopw [10] (fun s10 wi => ∃ t : Nat, s10 = .int .i64 t ∧ t ≤ nl ∧ (∀ y ∈ L.take t, lexB y x = true) ∧ Below wr_o.heap.size wr_o wi) (fun s10 _ => nl - (Go.RowKit.intOf s10).toNat)
      case atStart => exact ⟨0, rfl, Nat.zero_le _, t0.out, Below.refl _ _⟩
      case round =>
        obtain ⟨t, rfl, ht, htk, hbi⟩ := hrel
        have HT := Lib.hid htk
        have HBi := Lib.hid (HB.out.trans (hbi.mono HB.out.size))
        have HBr := Lib.hid hbi
        clear htk
        have xc := HXc.out _ HBi.out
        by_cases htl : t < nl
        · have htz : (t : Int) < nl := by omega
          obtain ⟨gl, rfl, hgl, hcl⟩ := (HL.out.below hbi) (by rw [HNl.out]; omega)
          obtain ⟨y, hy⟩ : ∃ y, L[t]? = some y := ⟨L[t]'(by rw [HNl.out]; exact htl), List.getElem?_eq_getElem _⟩
          have yc := hcl t y hy
          have HY := Lib.hid hy
          unfold txt at xc yc
          clear hcl hy hbi
          by_cases hxy : lexB y x = true
          · have HT2 : Hid (∀ z ∈ L.take (t + 1), lexB z x = true) := Lib.hid (fun z hz => by
              rw [List.take_add_one, HY.out] at hz
              rcases List.mem_append.1 hz with hz | hz
              · exact HT.out z hz
              · simp at hz
                rw [hz]
                exact hxy)
            have hcmp : Op.bytesLess y x = true := by rw [bytes_lex]; exact hxy
            clear hxy
            repeat (first | go_skip | go_guarded | go_step | go_upon)
            go_quiet (fail)
            have HB7 : Hid (Below wr_o.heap.size wr_o (wr.drewN nq)) := Lib.hid ⟨HBr.out.os, HBr.out.tape, HBr.out.output, HBr.out.size, HBr.out.block⟩
            clear xc yc hcmp
            generalize wr.drewN nq = w7 at HB7 ⊢
            repeat (first | go_skip | go_guarded | go_step | go_upon)
            exact ⟨⟨t + 1, by go_num, by omega, HT2.out, HB7.out⟩, by simp [Go.RowKit.intOf]; omega⟩
          · have hxf : lexB y x = false := by simpa using hxy
            have hcmp : Op.bytesLess y x = false := by rw [bytes_lex]; exact hxf
            have HI0 : Hid (insK x L = if L[t]? = some x then L else putAt L t x) := Lib.hid (ins_at x L t (by rw [HNl.out]; exact ht) HT.out (fun z hz => by rw [HY.out] at hz; injection hz with hz; rw [← hz]; exact hxf))
            clear hxy hxf
            repeat (first | go_skip | go_guarded | go_step | go_upon)
            go_quiet (fail)
            have hb7 : Below wr.heap.size wr (wr.drewN nq) := ⟨(Below.refl wr.heap.size wr).os, (Below.refl wr.heap.size wr).tape, (Below.refl wr.heap.size wr).output, (Below.refl wr.heap.size wr).size, (Below.refl wr.heap.size wr).block⟩
            have HB7 := Lib.hid (HBr.out.trans (hb7.mono HBr.out.size))
            have HB37 : Hid (Below w3.heap.size w3 (wr.drewN nq)) := Lib.hid (HBi.out.trans (hb7.mono HBi.out.size))
            have yc := (hb7.cell (p := ⟨gl, t, none⟩) hgl).trans yc
            have xc := HXc.out _ HB37.out
            unfold txt at xc
            clear hcmp hb7 hgl
            generalize wr.drewN nq = w7 at HB7 HB37 yc xc ⊢
            by_cases he : y = x
            · have hcm2 : (y == x) = true := by simpa using he
              have HNx : Hid (ordK (A.take (i + 1)) = L) := Lib.hid (by rw [HOr.out, HI0.out, if_pos (by rw [HY.out, he])])
              clear he
              repeat (first | go_skip | go_guarded | go_step | go_upon)
              go_quiet (fail)
              have HO7 := Lib.hid (owns_below HO.out HB7.out)
              have HB38 : Hid (Below w3.heap.size w3 (w7.drewN nq)) := Lib.hid ⟨HB37.out.os, HB37.out.tape, HB37.out.output, HB37.out.size, HB37.out.block⟩
              have HO38 : Hid ((w7.drewN nq).ownsRow w3.heap.size 9 1 (.slice (some ⟨gl, 0, none⟩) nl cL) (ordK (A.take (i + 1))).length ((ordK (A.take (i + 1))).map txt)) := Lib.hid (by
                rw [HNx.out]
                have := HO7.out
                rw [HNl.out] at this
                rw [HNl.out]
                exact this)
              clear xc yc hcm2 HO7
              generalize w7.drewN nq = w8 at HB38 HO38 ⊢
              repeat (first | go_skip | go_guarded | go_step | go_upon)
              exact ⟨⟨i + 1, by go_num, by omega, HO38.out, HB38.out⟩, by simp [Go.RowKit.intOf]; omega⟩
            · have hcm2 : (y == x) = false := by simpa using he
              have HIns : Hid (insK x L = putAt L t x) := Lib.hid (by rw [HI0.out, if_neg (by rw [HY.out]; intro e; injection e with e; exact he e)])
              clear he HI0
              repeat (first | go_skip | go_guarded | go_step | go_upon)
              go_quiet (fail)
              have HO7 := Lib.hid (owns_below HO.out HB7.out)
              have HB8 : Hid (Below w3.heap.size w3 (w7.drewN nq)) := Lib.hid ⟨HB37.out.os, HB37.out.tape, HB37.out.output, HB37.out.size, HB37.out.block⟩
              have HO8 : Hid ((w7.drewN nq).ownsRow w3.heap.size 9 1 (.slice (some ⟨gl, 0, none⟩) nl cL) nl (L.map txt)) := Lib.hid (by
                have := HO7.out
                rw [HNl.out] at this
                exact this)
              clear xc yc hcm2 HO7
              generalize w7.drewN nq = w8 at HB8 HO8 ⊢
              obtain ⟨i1, hi1, hy0, hy1, hy2⟩ := info_parts infoTx
              have HOa := Lib.hid (HO8.out.alloc (.cells #[.string ⟨#[]⟩] 9))
              have HBa : Hid (Below w3.heap.size w3 (w8.alloc (.cells #[.string ⟨#[]⟩] 9))) := Lib.hid (HB8.out.alloc HB8.out.size _)
              repeat (first
                | (at_builtin; refine wpList_append_own _ rfl _ _ 59 rfl w3.heap.size 9 i1 (.string ByteArray.empty) 1 16 Tryz.underlying59 hi1 hy0 hy1 hy2 rfl (by decide) _ _ _ rfl HOa.out ⟨w8.heap.size, 0, none⟩ 1 1 [.string ⟨#[]⟩] rfl rfl (one_text w8 []) (by simp [Value.oneCell']) (by unfold maxLen; omega) (by omega) (by have := HBa.out.size; exact this) ?_; intro v9 w9 ho9 hg9 _; have HO9 := Lib.hid ho9; have HB9 := Lib.hid (HBa.out.grown hg9 HBa.out.size (fun j hj => (HOa.out.lt j hj).1)); clear ho9 hg9; obtain ⟨a9, c9, hv9, hx9⟩ := owns_view HO9.out; subst hv9; obtain ⟨g9, hg9, -⟩ := hx9 (by omega); subst hg9; clear hx9)
                | go_skip | go_guarded | go_step | go_upon)
              have HP9 : Hid (w9.ownsRow w3.heap.size 9 1 (.slice (some ⟨g9, 0, none⟩) (nl + 1) c9) (nl + 1) ((putAt L nl []).map txt)) := Lib.hid (by
                have h := HO9.out
                rw [show (putAt L nl []).map txt = L.map txt ++ [.string ⟨#[]⟩] by rw [← HNl.out, put_end, List.map_append]; rfl]
                exact h)
              clear HO9
              go_loopw [11] (fun s11 wk => ∃ (k : Nat) (d : List UInt8), s11 = .int .i64 k ∧ t ≤ k ∧ k ≤ nl ∧ wk.ownsRow w3.heap.size 9 1 (.slice (some ⟨g9, 0, none⟩) (nl + 1) c9) (nl + 1) ((putAt L k d).map txt) ∧ Below w3.heap.size w3 wk) (fun s11 _ => (Go.RowKit.intOf s11).toNat)
              case atStart => exact ⟨nl, [], by go_num, ht, Nat.le_refl _, HP9.out, HB9.out⟩
              case round =>
                obtain ⟨k, d, rfl, htk, hkn, hok, hbk⟩ := hrel
                have HOk := Lib.hid hok
                have HBk := Lib.hid hbk
                have hgb : w3.heap.size ≤ g9 := (hok.lt g9 rfl).1
                have hpl : (putAt L k d).length = nl + 1 := by rw [put_len (by rw [HNl.out]; exact hkn), HNl.out]
                clear hok hbk
                by_cases hkt : t < k
                · obtain ⟨j, hj⟩ : ∃ j, j + 1 = k := ⟨k - 1, by omega⟩
                  have hktz : (t : Int) < k := by omega
                  obtain ⟨y2, hy2⟩ : ∃ y2, L[j]? = some y2 := ⟨L[j]'(by rw [HNl.out]; omega), List.getElem?_eq_getElem _⟩
                  obtain ⟨r1, -⟩ := own_cell HOk.out (j := j) (u := txt y2) (by rw [List.getElem?_map, put_below (by omega) hy2]; rfl)
                  obtain ⟨r2, r3⟩ := own_cell HOk.out (j := k) (u := ((putAt L k d).map txt)[k]'(by rw [List.length_map]; omega)) (List.getElem?_eq_getElem _)
                  have hw1 : wrap64 ((k : Int) - 1) = j := by unfold wrap64; omega
                  have r1 : wr.cell? ⟨g9, k - 1, none⟩ = some (txt y2) := by rw [show k - 1 = j by omega]; exact r1
                  have hjz : (j : Int) < (nl : Int) + 1 := by omega
                  have hkz2 : (k : Int) < (nl : Int) + 1 := by omega
                  have HN2 : Hid ((wr.setCell ⟨g9, k, none⟩ (txt y2)).ownsRow w3.heap.size 9 1 (.slice (some ⟨g9, 0, none⟩) (nl + 1) c9) (nl + 1) ((putAt L j y2).map txt)) := Lib.hid (by
                    have h := own_set HOk.out (by omega) k (txt y2)
                    rw [← List.map_set, put_set (by rw [HNl.out]; exact hkn), ← hj, put_down hy2] at h
                    rw [← hj]
                    exact h)
                  have HBn : Hid (Below w3.heap.size w3 (wr.setCell ⟨g9, k, none⟩ (txt y2))) := Lib.hid (HBk.out.setCell (p := ⟨g9, k, none⟩) hgb _)
                  unfold txt at r1 HN2 HBn
                  generalize (((putAt L k d).map fun l => Value.string ⟨l.toArray⟩)[k]'(by rw [List.length_map]; omega)) = old at r2
                  repeat (first | go_skip | go_guarded | go_step | go_upon)
                  exact ⟨⟨j, y2, by go_num, by omega, by omega, HN2.out, HBn.out⟩, by simp [Go.RowKit.intOf]; omega⟩
                · obtain rfl : k = t := by omega
                  have xc9 := HXc.out _ HBk.out
                  obtain ⟨r2, r3⟩ := own_cell HOk.out (j := k) (u := ((putAt L k d).map txt)[k]'(by rw [List.length_map]; omega)) (List.getElem?_eq_getElem _)
                  have hkz2 : (k : Int) < (nl : Int) + 1 := by omega
                  have HN2 : Hid ((wr.setCell ⟨g9, k, none⟩ (txt x)).ownsRow w3.heap.size 9 1 (.slice (some ⟨g9, 0, none⟩) (nl + 1) c9) (ordK (A.take (i + 1))).length ((ordK (A.take (i + 1))).map txt)) := Lib.hid (by
                    have h := own_set HOk.out (by omega) k (txt x)
                    rw [← List.map_set, put_set (by rw [HNl.out]; exact hkn)] at h
                    rw [HOr.out, HIns.out, put_len (by rw [HNl.out]; exact hkn), HNl.out]
                    exact h)
                  have HBn : Hid (Below w3.heap.size w3 (wr.setCell ⟨g9, k, none⟩ (txt x))) := Lib.hid (HBk.out.setCell (p := ⟨g9, k, none⟩) hgb _)
                  unfold txt at xc9 HN2 HBn
                  generalize (((putAt L k d).map fun l => Value.string ⟨l.toArray⟩)[k]'(by rw [List.length_map]; omega)) = old at r2
                  repeat (first | go_skip | go_guarded | go_step | go_upon)
                  exact ⟨⟨i + 1, by go_num, by omega, HN2.out, HBn.out⟩, by simp [Go.RowKit.intOf]; omega⟩
        · have htn : t = nl := by omega
          have htz : ¬ (t : Int) < nl := by omega
          have HTn := Lib.hid htn
          clear htn htl
          have HIns : Hid (insK x L = putAt L t x) := Lib.hid (by
            rw [ins_at x L t (by rw [HNl.out]; exact ht) HT.out (fun z hz => by rw [List.getElem?_eq_none (by rw [HNl.out]; exact Nat.le_of_eq HTn.out.symm)] at hz; cases hz), if_neg (by rw [List.getElem?_eq_none (by rw [HNl.out]; exact Nat.le_of_eq HTn.out.symm)]; intro e; cases e)])
          clear xc
          repeat (first | go_skip | go_guarded | go_step | go_upon)
          go_quiet (fail)
          have HB7 : Hid (Below wr_o.heap.size wr_o (wr.drewN nq)) := Lib.hid ⟨HBr.out.os, HBr.out.tape, HBr.out.output, HBr.out.size, HBr.out.block⟩
          have HB37 : Hid (Below w3.heap.size w3 (wr.drewN nq)) := Lib.hid ⟨HBi.out.os, HBi.out.tape, HBi.out.output, HBi.out.size, HBi.out.block⟩
          generalize wr.drewN nq = w7 at HB7 HB37 ⊢
          repeat (first | go_skip | go_guarded | go_step | go_upon)
          go_quiet (fail)
          have HO7 := Lib.hid (owns_below HO.out HB7.out)
          have HB8 : Hid (Below w3.heap.size w3 (w7.drewN nq)) := Lib.hid ⟨HB37.out.os, HB37.out.tape, HB37.out.output, HB37.out.size, HB37.out.block⟩
          have HO8 : Hid ((w7.drewN nq).ownsRow w3.heap.size 9 1 (.slice aL nl cL) nl (L.map txt)) := Lib.hid (by
            have := HO7.out
            rw [HNl.out] at this
            exact this)
          clear HO7
          generalize w7.drewN nq = w8 at HB8 HO8 ⊢
          obtain ⟨i1, hi1, hy0, hy1, hy2⟩ := info_parts infoTx
          have HOa := Lib.hid (HO8.out.alloc (.cells #[.string ⟨#[]⟩] 9))
          have HBa : Hid (Below w3.heap.size w3 (w8.alloc (.cells #[.string ⟨#[]⟩] 9))) := Lib.hid (HB8.out.alloc HB8.out.size _)
          repeat (first
            | (at_builtin; refine wpList_append_own _ rfl _ _ 59 rfl w3.heap.size 9 i1 (.string ByteArray.empty) 1 16 Tryz.underlying59 hi1 hy0 hy1 hy2 rfl (by decide) _ _ _ rfl HOa.out ⟨w8.heap.size, 0, none⟩ 1 1 [.string ⟨#[]⟩] rfl rfl (one_text w8 []) (by simp [Value.oneCell']) (by unfold maxLen; omega) (by omega) (by have := HBa.out.size; exact this) ?_; intro v9 w9 ho9 hg9 _; have HO9 := Lib.hid ho9; have HB9 := Lib.hid (HBa.out.grown hg9 HBa.out.size (fun j hj => (HOa.out.lt j hj).1)); clear ho9 hg9; obtain ⟨a9, c9, hv9, hx9⟩ := owns_view HO9.out; subst hv9; obtain ⟨g9, hg9, -⟩ := hx9 (by omega); subst hg9; clear hx9)
            | go_skip | go_guarded | go_step | go_upon)
          have HP9 : Hid (w9.ownsRow w3.heap.size 9 1 (.slice (some ⟨g9, 0, none⟩) (nl + 1) c9) (nl + 1) ((putAt L nl []).map txt)) := Lib.hid (by
            have h := HO9.out
            rw [show (putAt L nl []).map txt = L.map txt ++ [.string ⟨#[]⟩] by rw [← HNl.out, put_end, List.map_append]; rfl]
            exact h)
          clear HO9
          go_loopw [11] (fun s11 wk => ∃ (k : Nat) (d : List UInt8), s11 = .int .i64 k ∧ t ≤ k ∧ k ≤ nl ∧ wk.ownsRow w3.heap.size 9 1 (.slice (some ⟨g9, 0, none⟩) (nl + 1) c9) (nl + 1) ((putAt L k d).map txt) ∧ Below w3.heap.size w3 wk) (fun s11 _ => (Go.RowKit.intOf s11).toNat)
          case atStart => exact ⟨nl, [], by go_num, ht, Nat.le_refl _, HP9.out, HB9.out⟩
          case round =>
            obtain ⟨k, d, rfl, htk, hkn, hok, hbk⟩ := hrel
            have HOk := Lib.hid hok
            have HBk := Lib.hid hbk
            have hgb : w3.heap.size ≤ g9 := (hok.lt g9 rfl).1
            have hpl : (putAt L k d).length = nl + 1 := by rw [put_len (by rw [HNl.out]; exact hkn), HNl.out]
            clear hok hbk
            by_cases hkt : t < k
            · exact absurd hkt (by have := HTn.out; omega)
            · obtain rfl : k = t := by omega
              have xc9 := HXc.out _ HBk.out
              obtain ⟨r2, r3⟩ := own_cell HOk.out (j := k) (u := ((putAt L k d).map txt)[k]'(by rw [List.length_map]; omega)) (List.getElem?_eq_getElem _)
              have hkz2 : (k : Int) < (nl : Int) + 1 := by omega
              have HN2 : Hid ((wr.setCell ⟨g9, k, none⟩ (txt x)).ownsRow w3.heap.size 9 1 (.slice (some ⟨g9, 0, none⟩) (nl + 1) c9) (ordK (A.take (i + 1))).length ((ordK (A.take (i + 1))).map txt)) := Lib.hid (by
                have h := own_set HOk.out (by omega) k (txt x)
                rw [← List.map_set, put_set (by rw [HNl.out]; exact hkn)] at h
                rw [HOr.out, HIns.out, put_len (by rw [HNl.out]; exact hkn), HNl.out]
                exact h)
              have HBn : Hid (Below w3.heap.size w3 (wr.setCell ⟨g9, k, none⟩ (txt x))) := Lib.hid (HBk.out.setCell (p := ⟨g9, k, none⟩) hgb _)
              unfold txt at xc9 HN2 HBn
              generalize (((putAt L k d).map fun l => Value.string ⟨l.toArray⟩)[k]'(by rw [List.length_map]; omega)) = old at r2
              repeat (first | go_skip | go_guarded | go_step | go_upon)
              exact ⟨⟨i + 1, by go_num, by omega, HN2.out, HBn.out⟩, by simp [Go.RowKit.intOf]; omega⟩
    · obtain rfl : na = i := by omega
      have HOe : Hid (wr.ownsRow w.heap.size 9 1 u8 (ordK A).length ((ordK A).map txt)) := Lib.hid (by
        have h := ho
        rw [List.take_of_length_le (by rw [HNa.out]; exact Nat.le_refl _)] at h
        exact owns_low h B3.out.size)
      have HBe := Lib.hid (B3.out.trans (hb.mono B3.out.size))
      obtain ⟨aE, cE, rfl, -⟩ := owns_view ho
      clear ho hb
      repeat (first | go_skip | go_guarded | go_step | go_upon)
      go_ret
      exact ⟨_, rfl, HOe.out, HBe.out⟩
end RC
end Go.Proofs.YtmpmmebmhffaeaaGreatDoor
