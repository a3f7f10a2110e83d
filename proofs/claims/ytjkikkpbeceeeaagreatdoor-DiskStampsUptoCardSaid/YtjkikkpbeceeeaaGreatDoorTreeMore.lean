/- Layer 6 over lists: where two trees differ; the names in a directory; a value moved (no program is read here). -/
import Derived.Test.YtjkikkpbeceeeaaGreatDoorTreePut
namespace Go.Proofs.YtjkikkpbeceeeaaGreatDoor.TP
open Go NP

/- where two trees differ -/
def diffM : List Nd → List Nd → List (List UInt8)
  | [], b => b.map (·.path)
  | x :: a, [] => (x :: a).map (·.path)
  | x :: a, y :: b =>
    if ordL x.path y.path < 0 then x.path :: diffM a (y :: b)
    else if ordL y.path x.path < 0 then y.path :: diffM (x :: a) b
    else if x = y then diffM a b else x.path :: diffM a b
  termination_by a b => a.length + b.length
def differL (a b : List Nd) : List (List UInt8) := if treeB a = true ∧ treeB b = true then diffM a b else []
theorem diffM_nil : ∀ {a b : List Nd}, diffM a b = [] → a = b
  | [], b, h => by
    rw [diffM] at h
    exact (List.map_eq_nil_iff.1 h).symm
  | x :: a, [], h => by
    rw [diffM] at h
    exact List.map_eq_nil_iff.1 h
  | x :: a, y :: b, h => by
    rw [diffM] at h
    split at h
    · simp at h
    · split at h
      · simp at h
      · split at h
        · rename_i e
          rw [e, diffM_nil h]
        · simp at h
  termination_by a b => a.length + b.length
theorem diffM_self : ∀ a : List Nd, diffM a a = []
  | [] => by rw [diffM]; rfl
  | x :: a => by
    rw [diffM, if_neg (ord_irr _), if_neg (ord_irr _), if_pos rfl]
    exact diffM_self a
theorem diffM_mem : ∀ {a b : List Nd}, Sorted a → Sorted b → ∀ q ∈ diffM a b, (∃ n ∈ a, n.path = q ∧ n ∉ b) ∨ (∃ n ∈ b, n.path = q ∧ n ∉ a)
  | [], b, _, _, q, h => by
    rw [diffM, List.mem_map] at h
    obtain ⟨n, hn, e⟩ := h
    exact .inr ⟨n, hn, e, by simp⟩
  | x :: a, [], _, _, q, h => by
    rw [diffM, List.mem_map] at h
    obtain ⟨n, hn, e⟩ := h
    exact .inl ⟨n, hn, e, by simp⟩
  | x :: a, y :: b, ha, hb, q, h => by
    have ax : ∀ m ∈ a, lt x m := fun m hm => List.rel_of_pairwise_cons ha hm
    have bx : ∀ m ∈ b, lt y m := fun m hm => List.rel_of_pairwise_cons hb hm
    rw [diffM] at h
    by_cases h1 : ordL x.path y.path < 0
    · rw [if_pos h1] at h
      have hx : x ∉ y :: b := fun hm => by
        rcases List.mem_cons.1 hm with e | e
        · rw [e] at h1; exact ord_irr _ h1
        · exact ord_neg h1 (bx x e)
      rcases List.mem_cons.1 h with e | h
      · exact .inl ⟨x, List.mem_cons_self .., e.symm, hx⟩
      · rcases diffM_mem (List.Pairwise.of_cons ha) hb q h with ⟨n, hn, e, hno⟩ | ⟨n, hn, e, hno⟩
        · exact .inl ⟨n, List.mem_cons_of_mem _ hn, e, hno⟩
        · refine .inr ⟨n, hn, e, fun hm => ?_⟩
          rcases List.mem_cons.1 hm with e2 | e2
          · rw [e2] at hn; exact hx hn
          · exact hno e2
    · rw [if_neg h1] at h
      by_cases h2 : ordL y.path x.path < 0
      · rw [if_pos h2] at h
        have hy : y ∉ x :: a := fun hm => by
          rcases List.mem_cons.1 hm with e | e
          · rw [e] at h2; exact ord_irr _ h2
          · exact ord_neg h2 (ax y e)
        rcases List.mem_cons.1 h with e | h
        · exact .inr ⟨y, List.mem_cons_self .., e.symm, hy⟩
        · rcases diffM_mem ha (List.Pairwise.of_cons hb) q h with ⟨n, hn, e, hno⟩ | ⟨n, hn, e, hno⟩
          · refine .inl ⟨n, hn, e, fun hm => ?_⟩
            rcases List.mem_cons.1 hm with e2 | e2
            · rw [e2] at hn; exact hy hn
            · exact hno e2
          · exact .inr ⟨n, List.mem_cons_of_mem _ hn, e, hno⟩
      · rw [if_neg h2] at h
        have hp : x.path = y.path := by
          rcases ord_tri x.path y.path with e | e | e
          · exact absurd e h1
          · exact e
          · exact absurd e h2
        have hxb : x ∉ b := fun hm => by
          have := bx x hm
          unfold lt at this
          rw [← hp] at this
          exact ord_irr _ this
        have hya : y ∉ a := fun hm => by
          have := ax y hm
          unfold lt at this
          rw [hp] at this
          exact ord_irr _ this
        have step : ∀ q ∈ diffM a b, (∃ n ∈ x :: a, n.path = q ∧ n ∉ y :: b) ∨ (∃ n ∈ y :: b, n.path = q ∧ n ∉ x :: a) := fun q h => by
          rcases diffM_mem (List.Pairwise.of_cons ha) (List.Pairwise.of_cons hb) q h with ⟨n, hn, e, hno⟩ | ⟨n, hn, e, hno⟩
          · refine .inl ⟨n, List.mem_cons_of_mem _ hn, e, fun hm => ?_⟩
            rcases List.mem_cons.1 hm with e2 | e2
            · rw [e2] at hn; exact hya hn
            · exact hno e2
          · refine .inr ⟨n, List.mem_cons_of_mem _ hn, e, fun hm => ?_⟩
            rcases List.mem_cons.1 hm with e2 | e2
            · rw [e2] at hn; exact hxb hn
            · exact hno e2
        by_cases h3 : x = y
        · rw [if_pos h3] at h
          exact step q h
        · rw [if_neg h3] at h
          rcases List.mem_cons.1 h with e | h
          · refine .inl ⟨x, List.mem_cons_self .., e.symm, fun hm => ?_⟩
            rcases List.mem_cons.1 hm with e2 | e2
            · exact h3 e2
            · exact hxb e2
          · exact step q h
  termination_by a b => a.length + b.length
theorem diff_put {t : List Nd} {p : List UInt8} {v : List Nd} (h : PutOk t p v) : ∀ q ∈ diffM t (outL t p v), withinL q p = true := fun q hq => by
  rcases diffM_mem h.tree.sorted (out_tree h).sorted q hq with ⟨n, hn, rfl, hno⟩ | ⟨n, hn, rfl, hno⟩
  · cases hw : withinL n.path p with
    | true => rfl
    | false => exact absurd ((mem_out t p v n).2 (.inl ⟨hn, hw⟩)) hno
  · rcases (mem_out t p v n).1 hn with ⟨a, _⟩ | ⟨m, hm, rfl⟩
    · exact absurd a hno
    · exact place_within (path_ne h.path) (h.all m hm)

/- taken away -/
theorem filter_two (t : List Nd) (f g : Nd → Bool) : (t.filter fun n => f n && g n).length + (t.filter fun n => f n && !g n).length ≤ t.length := by
  induction t with
  | nil => simp
  | cons x r ih =>
    simp only [List.filter_cons]
    cases f x <;> cases g x <;> simp <;> omega
theorem out_nil_len (t : List Nd) (p : List UInt8) : (outL t p []).length ≤ t.length := by
  unfold outL
  rw [List.map_nil, List.nil_append, List.length_append]
  exact filter_two t _ _
theorem take_ok {t : List Nd} (ht : Tree t) {p : List UInt8} (hp : pathL p = true) : PutOk t p [] :=
  ⟨ht, Val.nil, hp, fun h => absurd rfl h, by simp, Nat.le_trans (out_nil_len t p) ht.len⟩
theorem within_comp {n a b : List UInt8} (ha : a ≠ []) (hb : b ≠ []) (h1 : withinL n a = true) (h2 : withinL n b = true) : withinL a b = true ∨ withinL b a = true := by
  have hn := within_path h1
  obtain ⟨pa, ca⟩ := (within_parts hn ha).1 h1
  obtain ⟨pb, cb⟩ := (within_parts hn hb).1 h2
  rcases List.prefix_or_prefix_of_prefix ca cb with h | h
  · exact .inr ((within_parts pb ha).2 ⟨pa, h⟩)
  · exact .inl ((within_parts pa hb).2 ⟨pb, h⟩)
theorem at_none {t : List Nd} {p : List UInt8} (h0 : p ≠ []) (hp : pathL p = false) : atL t p = [] := by
  unfold atL
  by_cases ht : treeB t = true
  · rw [if_pos ht, if_neg h0, List.map_eq_nil_iff, List.filter_eq_nil_iff]
    intro n hn
    rw [within_noq (((tree_iff t).1 ht).path n hn) h0 hp]
    simp
  · rw [if_neg ht]
/-- A value put elsewhere, and taken away where it was. -/
theorem moved {t : List Nd} {src dst : List UInt8} {v : List Nd} (h : PutOk t dst v) (hs : pathL src = true) (h1 : withinL dst src = false) (h2 : withinL src dst = false) :
    PutOk (outL t dst v) src [] ∧ PutOk (outL t src []) dst v ∧ outL (outL t dst v) src [] = outL (outL t src []) dst v ∧ atL (outL (outL t dst v) src []) src = [] := by
  have hs0 := path_ne hs
  have hd0 := path_ne h.path
  have hA := out_tree h
  have hB := out_tree (take_ok h.tree hs)
  have ok1 := take_ok hA hs
  have hno : ∀ m ∈ v, withinL (placeN dst m).path src = false := fun m hm => by
    rw [Bool.eq_false_iff]
    intro hw
    rcases within_comp hd0 hs0 (place_within hd0 (h.all m hm)) hw with e | e
    · rw [e] at h1; cases h1
    · rw [e] at h2; cases h2
  have heq : outL (outL t dst v) src [] = outL (outL t src []) dst v := by
    refine sorted_ext (out_sorted hA hs List.Pairwise.nil (by simp)) (out_sorted hB h.path h.val.sorted h.all) fun n => ?_
    rw [mem_out, mem_out, mem_out, mem_out]
    constructor
    · rintro (⟨⟨a, b⟩ | ⟨m, hm, rfl⟩, c⟩ | ⟨m, hm, _⟩)
      · exact .inl ⟨.inl ⟨a, c⟩, b⟩
      · exact .inr ⟨m, hm, rfl⟩
      · simp at hm
    · rintro (⟨⟨a, b⟩ | ⟨m, hm, _⟩, c⟩ | ⟨m, hm, rfl⟩)
      · exact .inl ⟨.inl ⟨a, c⟩, b⟩
      · simp at hm
      · exact .inl ⟨.inr ⟨m, hm, rfl⟩, hno m hm⟩
  refine ⟨ok1, ⟨hB, h.val, h.path, fun hne => ?_, h.all, ?_⟩, heq, ?_⟩
  · rcases h.up hne with e | ⟨d, hd, e1, e2⟩
    · exact .inl e
    · by_cases hu : upL dst = []
      · exact .inl hu
      · refine .inr ⟨d, (mem_out _ _ _ _).2 (.inl ⟨hd, ?_⟩), e1, e2⟩
        rw [Bool.eq_false_iff]
        intro hw
        rw [e1] at hw
        rw [within_of_up h.path hs0 hu hw] at h1
        cases h1
  · rw [← heq]; exact Nat.le_trans (out_nil_len _ _) h.len
  · have hC := out_tree ok1
    rw [List.eq_nil_iff_forall_not_mem]
    intro n hn
    rcases (mem_out _ _ _ _).1 ((at_mem hC hs n).1 hn) with ⟨a, b⟩ | ⟨m, hm, _⟩
    · rw [place_within hs0 (hA.path _ a)] at b
      cases b
    · simp at hm

/- the names in a directory -/
def namesL (t : List Nd) (p : List UInt8) : List (List UInt8) := if treeB t = true ∧ dirB t p = true then (t.filter fun n => decide (parentL n.path = p)).map fun n => baseL n.path else []
theorem names_tree {t : List Nd} (ht : Tree t) {p : List UInt8} (hd : Dir t p) : namesL t p = (t.filter fun n => decide (upL n.path = p)).map fun n => lastL n.path := by
  unfold namesL
  rw [if_pos ⟨(tree_iff t).2 ht, (dir_iff ht.sorted p).2 hd⟩]
  have e1 : (t.filter fun n => decide (parentL n.path = p)) = t.filter fun n => decide (upL n.path = p) := List.filter_congr fun n hn => by
    rw [show parentL n.path = upL n.path by unfold parentL; rw [if_pos (ht.path n hn)]]
  rw [e1]
  refine List.map_congr_left fun n hn => ?_
  rw [List.mem_filter] at hn
  unfold baseL
  rw [if_pos (ht.path n hn.1)]
theorem names_no {t : List Nd} (ht : Tree t) {p : List UInt8} (hd : ¬ Dir t p) : namesL t p = [] := by
  unfold namesL
  rw [if_neg (fun h => hd ((dir_iff ht.sorted p).1 h.2))]
theorem none_below {t : List Nd} (ht : Tree t) {p : List UInt8} (hd : ¬ Dir t p) : (t.filter fun n => decide (upL n.path = p)) = [] := by
  rw [List.filter_eq_nil_iff]
  intro n hn h
  have h := of_decide_eq_true h
  exact hd (h ▸ ht.dir n hn)
theorem names_len {t : List Nd} (ht : Tree t) (p : List UInt8) : (namesL t p).length = (t.filter fun n => decide (upL n.path = p)).length := by
  by_cases hd : Dir t p
  · rw [names_tree ht hd, List.length_map]
  · rw [names_no ht hd, none_below ht hd]; rfl
/-- Each name, with its directory ahead of it, is there. -/
theorem names_there {t : List Nd} (ht : Tree t) {p x : List UInt8} (hx : x ∈ namesL t p) : ∃ n ∈ t, n.path = if p = [] then x else p ++ 47 :: x := by
  by_cases hd : Dir t p
  · rw [names_tree ht hd, List.mem_map] at hx
    obtain ⟨n, hn, rfl⟩ := hx
    rw [List.mem_filter] at hn
    have hu := of_decide_eq_true hn.2
    have h := up_last n.path (ht.path n hn.1)
    rw [hu] at h
    exact ⟨n, hn.1, h⟩
  · rw [names_no ht hd] at hx; simp at hx
theorem names_order {t : List Nd} (ht : Tree t) (p : List UInt8) : (namesL t p).Pairwise fun a b => cmpL a b < 0 := by
  by_cases hd : Dir t p
  · rw [names_tree ht hd, List.pairwise_map]
    refine List.Pairwise.imp_of_mem (fun {a b} ha hb hlt => ?_) (sorted_filter ht.sorted _)
    rw [List.mem_filter] at ha hb
    have ha2 := of_decide_eq_true ha.2
    have hb2 := of_decide_eq_true hb.2
    have la := up_last a.path (ht.path a ha.1)
    have lb := up_last b.path (ht.path b hb.1)
    rw [ha2] at la
    rw [hb2] at lb
    have key : ordL a.path b.path = ordL (lastL a.path) (lastL b.path) := by
      by_cases h0 : p = []
      · rw [if_pos h0] at la lb
        rw [← la, ← lb]
      · rw [if_neg h0] at la lb
        conv => lhs; rw [la, lb]
        rw [ordL_append]
        show ordL ([47] ++ _) ([47] ++ _) = _
        exact ordL_append [47] _ _
    unfold lt at hlt
    rw [key] at hlt
    by_cases he : lastL a.path = lastL b.path
    · rw [he] at hlt; exact absurd hlt (ord_irr _)
    · have := ord_parts (lastL a.path) (lastL b.path) [] [] (last_no _) (last_no _) he (.inl rfl) (.inl rfl)
      rw [List.append_nil, List.append_nil] at this
      rw [← this]
      exact hlt
  · rw [names_no ht hd]; exact List.Pairwise.nil
/- each node is told once -/
theorem sum_zero (l : List Nd) : (l.map fun _ => 0).sum = 0 := by
  induction l with
  | nil => rfl
  | cons x l ih => simp [ih]
theorem sum_filter (D : List Nd) (r : Nd → Nd → Bool) : ∀ N : List Nd, (D.map fun d => (N.filter (r d)).length).sum = (N.map fun n => (D.filter fun d => r d n).length).sum
  | [] => by simpa using sum_zero D
  | n :: N => by
    rw [List.map_cons, List.sum_cons, ← sum_filter D r N]
    induction D with
    | nil => rfl
    | cons d D ih =>
      simp only [List.map_cons, List.sum_cons, List.filter_cons] at ih ⊢
      cases r d n
      · simp only [Bool.false_eq_true, if_false]; omega
      · simp only [if_true, List.length_cons]; omega
theorem one_of_path {t : List Nd} (hs : Sorted t) {d : Nd} (hd : d ∈ t) : (t.filter fun n => decide (n.path = d.path)) = [d] := by
  refine sorted_ext (sorted_filter hs _) (List.pairwise_singleton _ _) fun n => ?_
  rw [List.mem_filter, List.mem_singleton, decide_eq_true_eq]
  constructor
  · rintro ⟨a, b⟩; exact sorted_one hs a hd b
  · rintro rfl; exact ⟨hd, rfl⟩
theorem names_count {t : List Nd} (ht : Tree t) : ((root :: t).map fun d => (namesL t d.path).length).sum = t.length := by
  have hrt : Sorted (root :: t) := List.Pairwise.cons (fun n hn => nil_lt (path_ne (ht.path n hn))) ht.sorted
  have e1 : ((root :: t).map fun d => (namesL t d.path).length) = (root :: t).map fun d => (t.filter fun n => decide (upL n.path = d.path)).length := List.map_congr_left fun d _ => names_len ht d.path
  rw [e1, sum_filter (root :: t) (fun d n => decide (upL n.path = d.path)) t]
  have e2 : (t.map fun n => ((root :: t).filter fun d => decide (upL n.path = d.path)).length) = t.map fun _ => 1 := List.map_congr_left fun n hn => by
    obtain ⟨d, hd, e⟩ : ∃ d ∈ root :: t, d.path = upL n.path := by
      rcases ht.dir n hn with e | ⟨d, hd, e, _⟩
      · exact ⟨root, List.mem_cons_self .., e.symm⟩
      · exact ⟨d, List.mem_cons_of_mem _ hd, e⟩
    have := one_of_path hrt hd
    rw [e] at this
    have h2 : ((root :: t).filter fun d => decide (upL n.path = d.path)) = (root :: t).filter fun d => decide (d.path = upL n.path) := List.filter_congr fun x _ => by
      by_cases h : upL n.path = x.path
      · rw [decide_eq_true h, decide_eq_true h.symm]
      · rw [decide_eq_false h, decide_eq_false (Ne.symm h)]
    rw [h2, this]
    rfl
  rw [e2]
  clear e1 e2 hrt ht
  induction t with
  | nil => rfl
  | cons x t ih => simp [ih]; omega
end Go.Proofs.YtjkikkpbeceeeaaGreatDoor.TP
