/- Layer 6 over lists: where a path stands in a tree in the order of paths, and what lies within it (no program is read here). -/
import Derived.Test.YtjkikkpbeceeeaaGreatDoorTreeMore
import Derived.Test.YtjkikkpbeceeeaaGreatDoorTreePutP
namespace Go.Proofs.YtjkikkpbeceeeaaGreatDoor.TP
open Go NP

theorem ord_swap_lt {a b : List UInt8} : ordL a b < 0 ↔ 0 < ordL b a := by
  have := ordL_swap a b
  omega
theorem sorted_at {t : List Nd} (hs : Sorted t) {i j : Nat} {x y : Nd} (hx : t[i]? = some x) (hy : t[j]? = some y) (h : i < j) : ordL x.path y.path < 0 := by
  obtain ⟨hi, rfl⟩ := List.getElem?_eq_some_iff.1 hx
  obtain ⟨hj, rfl⟩ := List.getElem?_eq_some_iff.1 hy
  exact List.pairwise_iff_getElem.1 hs i j hi hj h
/-- k is where the path stands, or would stand. -/
structure PlaceAt (t : List Nd) (p : List UInt8) (k : Nat) : Prop where
  le : k ≤ t.length
  ahead : Ahead t p k
  behind : Behind t p k
theorem Ahead.of {t : List Nd} {p : List UInt8} {i : Nat} {x : Nd} (hs : Sorted t) (hx : t[i]? = some x) (ho : ordL x.path p < 0) : Ahead t p (i + 1) := fun j y hj hy => by
  rcases Nat.lt_or_ge j i with e | e
  · exact ord_lt (sorted_at hs hy hx e) ho
  · have : j = i := by omega
    subst this
    rw [hx] at hy
    cases hy
    exact ho
theorem place_uniq {t : List Nd} {p : List UInt8} {i j : Nat} (h : PlaceAt t p i) (k : PlaceAt t p j) : i = j := by
  rcases Nat.lt_trichotomy i j with e | e | e
  · have hi : i < t.length := by have := k.le; omega
    exact absurd (k.ahead i _ e (List.getElem?_eq_getElem hi)) (h.behind i _ (Nat.le_refl _) (List.getElem?_eq_getElem hi))
  · exact e
  · have hi : j < t.length := by have := h.le; omega
    exact absurd (h.ahead j _ e (List.getElem?_eq_getElem hi)) (k.behind j _ (Nat.le_refl _) (List.getElem?_eq_getElem hi))
theorem place_yes {t : List Nd} {p : List UInt8} {k : Nat} {x : Nd} (hs : Sorted t) (hx : t[k]? = some x) (he : x.path = p) : findN t p = some x := by
  rw [← he]
  exact find_of hs (List.mem_of_getElem? hx)
theorem place_no {t : List Nd} {p : List UInt8} {k : Nat} (hs : Sorted t) (h : PlaceAt t p k) (hno : ∀ x, t[k]? = some x → x.path ≠ p) : findN t p = none := by
  unfold findN
  rw [List.find?_eq_none]
  intro n hn
  obtain ⟨j, hj, e⟩ := List.getElem_of_mem hn
  have hj' : t[j]? = some n := by rw [← e]; exact List.getElem?_eq_getElem _
  intro he
  have he := of_decide_eq_true he
  have hnl : ¬ ordL n.path p < 0 := by rw [he]; exact ord_irr p
  rcases Nat.lt_trichotomy j k with e | e | e
  · exact hnl (h.ahead j n e hj')
  · rw [e] at hj'; exact hno n hj' he
  · have hk : k < t.length := by omega
    have hx := List.getElem?_eq_getElem hk
    have h1 := sorted_at hs hx hj' e
    rw [he] at h1
    exact h.behind k _ (Nat.le_refl _) hx h1
/-- From i to j lies what is within the path. -/
structure Cut (t : List Nd) (p : List UInt8) (i j : Nat) : Prop where
  at_ : PlaceAt t p i
  ij : i ≤ j
  le : j ≤ t.length
  yes : ∀ m x, i ≤ m → m < j → t[m]? = some x → withinL x.path p = true
  no : ∀ m x, j ≤ m → t[m]? = some x → withinL x.path p = false
theorem within_nil {n : List UInt8} (hn : pathL n = true) : withinL n [] = true := by
  unfold withinL Lib.hasPrefix restOk
  rw [hn]
  simp
theorem within_q {n p : List UInt8} (hn : pathL n = true) (hp : p ≠ []) (h : withinL n p = true) : pathL p = true := by
  cases hq : pathL p with
  | true => rfl
  | false => rw [within_noq hn hp hq] at h; cases h
/-- Behind the place, what stands ahead of one that is within the path is within it too. -/
theorem within_mono {t : List Nd} {p : List UInt8} {i a b : Nat} {x y : Nd} (hs : Sorted t) (hp : ∀ n ∈ t, pathL n.path = true) (h : PlaceAt t p i) (ha : i ≤ a) (hab : a ≤ b) (hx : t[a]? = some x) (hy : t[b]? = some y) (hw : withinL y.path p = true) : withinL x.path p = true := by
  have hxp := hp x (List.mem_of_getElem? hx)
  have hyp := hp y (List.mem_of_getElem? hy)
  by_cases h0 : p = []
  · rw [h0]; exact within_nil hxp
  · have hpp := within_q hyp h0 hw
    have hno := h.behind a x ha hx
    rcases ord_tri x.path p with e | e | e
    · exact absurd e hno
    · rw [e]; exact within_self hpp
    · rcases Nat.lt_or_ge a b with hlt | hge
      · exact between hxp hw e (sorted_at hs hx hy hlt)
      · have : a = b := by omega
        subst this
        rw [hx] at hy
        cases hy
        exact hw
theorem low_not_within {n p : List UInt8} (hn : pathL n = true) (h : ordL n p < 0) : withinL n p = false := by
  rw [Bool.eq_false_iff]
  intro hw
  by_cases h0 : p = []
  · rw [h0] at h
    exact ord_neg h (nil_lt (path_ne hn))
  · have := ord_below h0 hw
    have := ordL_swap n p
    omega
theorem mem_take {t : List Nd} {i : Nat} {n : Nd} (h : n ∈ t.take i) : ∃ m, m < i ∧ t[m]? = some n := by
  obtain ⟨m, hm, e⟩ := List.getElem_of_mem h
  rw [List.length_take] at hm
  refine ⟨m, by omega, ?_⟩
  rw [← e, List.getElem_take]
  exact List.getElem?_eq_getElem _
theorem mem_drop {t : List Nd} {j : Nat} {n : Nd} (h : n ∈ t.drop j) : ∃ m, j ≤ m ∧ t[m]? = some n := by
  obtain ⟨m, hm, e⟩ := List.getElem_of_mem h
  rw [List.length_drop] at hm
  refine ⟨j + m, by omega, ?_⟩
  rw [← e, List.getElem_drop]
  exact List.getElem?_eq_getElem _
theorem mem_mid {t : List Nd} {i j : Nat} {n : Nd} (h : n ∈ (t.take j).drop i) : ∃ m, i ≤ m ∧ m < j ∧ t[m]? = some n := by
  obtain ⟨m, hm, e⟩ := List.getElem_of_mem h
  rw [List.length_drop, List.length_take] at hm
  refine ⟨i + m, by omega, by omega, ?_⟩
  rw [← e, List.getElem_drop, List.getElem_take]
  exact List.getElem?_eq_getElem _
theorem cut_three (t : List Nd) {i j : Nat} (h : i ≤ j) : t = t.take i ++ ((t.take j).drop i ++ t.drop j) := by
  have e : (t.take j).take i = t.take i := by rw [List.take_take, Nat.min_eq_left h]
  rw [← List.append_assoc, ← e, List.take_append_drop, List.take_append_drop]
theorem filter_all {t : List Nd} {f : Nd → Bool} (h : ∀ n ∈ t, f n = true) : t.filter f = t := List.filter_eq_self.2 h
theorem filter_none {t : List Nd} {f : Nd → Bool} (h : ∀ n ∈ t, f n = false) : t.filter f = [] := List.filter_eq_nil_iff.2 fun n hn => by rw [h n hn]; simp
section
variable {t : List Nd} {p : List UInt8} {i j : Nat}
theorem Cut.a (hp : ∀ n ∈ t, pathL n.path = true) (h : Cut t p i j) : ∀ n ∈ t.take i, ordL n.path p < 0 ∧ withinL n.path p = false := fun n hn => by
  obtain ⟨m, hm, e⟩ := mem_take hn
  have := h.at_.ahead m n hm e
  exact ⟨this, low_not_within (hp n (List.mem_of_getElem? e)) this⟩
theorem Cut.b (h : Cut t p i j) : ∀ n ∈ (t.take j).drop i, ¬ ordL n.path p < 0 ∧ withinL n.path p = true := fun n hn => by
  obtain ⟨m, h1, h2, e⟩ := mem_mid hn
  exact ⟨h.at_.behind m n h1 e, h.yes m n h1 h2 e⟩
theorem Cut.c (h : Cut t p i j) : ∀ n ∈ t.drop j, ¬ ordL n.path p < 0 ∧ withinL n.path p = false := fun n hn => by
  obtain ⟨m, h1, e⟩ := mem_drop hn
  exact ⟨h.at_.behind m n (by have := h.ij; omega) e, h.no m n h1 e⟩
theorem Cut.filter (hp : ∀ n ∈ t, pathL n.path = true) (h : Cut t p i j) : (t.filter fun n => withinL n.path p) = (t.take j).drop i := by
  conv => lhs; rw [cut_three t h.ij]
  rw [List.filter_append, List.filter_append, filter_none (fun n hn => (h.a hp n hn).2), filter_all (fun n hn => (h.b n hn).2), filter_none (fun n hn => (h.c n hn).2)]
  simp
theorem Cut.low (hp : ∀ n ∈ t, pathL n.path = true) (h : Cut t p i j) : t.filter (lowN p) = t.take i := by
  conv => lhs; rw [cut_three t h.ij]
  rw [List.filter_append, List.filter_append, filter_all, filter_none, filter_none]
  · simp
  · intro n hn; unfold lowN; rw [decide_eq_false (h.c n hn).1]; simp
  · intro n hn; unfold lowN; rw [decide_eq_false (h.b n hn).1]; simp
  · intro n hn; unfold lowN; rw [(h.a hp n hn).2, decide_eq_true (h.a hp n hn).1]; rfl
theorem Cut.high (hp : ∀ n ∈ t, pathL n.path = true) (h : Cut t p i j) : t.filter (highN p) = t.drop j := by
  conv => lhs; rw [cut_three t h.ij]
  rw [List.filter_append, List.filter_append, filter_none, filter_none, filter_all]
  · simp
  · intro n hn; unfold highN; rw [(h.c n hn).2, decide_eq_false (h.c n hn).1]; rfl
  · intro n hn; unfold highN; rw [(h.b n hn).2]; simp
  · intro n hn; unfold highN; rw [decide_eq_true (h.a hp n hn).1]; simp
theorem Cut.out (hp : ∀ n ∈ t, pathL n.path = true) (h : Cut t p i j) (v : List Nd) : outL t p v = t.take i ++ (v.map (placeN p) ++ t.drop j) := by
  rw [← h.low hp, ← h.high hp]
  rfl
theorem Cut.len (hp : ∀ n ∈ t, pathL n.path = true) (h : Cut t p i j) (v : List Nd) : (outL t p v).length = t.length - (j - i) + v.length := by
  have := h.ij
  have := h.le
  rw [h.out hp, List.length_append, List.length_append, List.length_map, List.length_take, List.length_drop]
  omega
theorem Cut.names (ht : Tree t) (h : Cut t p i j) : namesL t p = (((t.take j).drop i).filter fun n => decide (parentL n.path = p)).map fun n => baseL n.path := by
  have key : ∀ n ∈ t, withinL n.path p = false → decide (parentL n.path = p) = false := fun n hn hw => by
    rw [decide_eq_false_iff_not]
    intro e
    have hnp := ht.path n hn
    rw [show parentL n.path = upL n.path by unfold parentL; rw [if_pos hnp]] at e
    by_cases h0 : p = []
    · rw [h0, within_nil hnp] at hw; cases hw
    · rw [← e] at h0
      rw [← e, (up_path hnp h0).2] at hw; cases hw
  have e1 : (t.filter fun n => decide (parentL n.path = p)) = ((t.take j).drop i).filter fun n => decide (parentL n.path = p) := by
    conv => lhs; rw [cut_three t h.ij]
    rw [List.filter_append, List.filter_append, filter_none (fun n hn => key n (List.mem_of_mem_take hn) (h.a ht.path n hn).2), filter_none (t := t.drop j) (fun n hn => key n (List.mem_of_mem_drop hn) (h.c n hn).2)]
    simp
  rw [← e1]
  by_cases hd : Dir t p
  · unfold namesL
    rw [if_pos ⟨(tree_iff t).2 ht, (dir_iff ht.sorted p).2 hd⟩]
  · rw [names_no ht hd]
    have e2 : (t.filter fun n => decide (parentL n.path = p)) = t.filter fun n => decide (upL n.path = p) := List.filter_congr fun n hn => by
      rw [show parentL n.path = upL n.path by unfold parentL; rw [if_pos (ht.path n hn)]]
    rw [e2, none_below ht hd]
    rfl
theorem Cut.all (hp : ∀ n ∈ t, pathL n.path = true) (h : Cut t [] i j) : (t.take j).drop i = t := by
  rw [← h.filter hp]
  exact filter_all fun n hn => within_nil (hp n hn)
end
/-- A node's path as the program counts it from p. -/
def trimN (p : List UInt8) (n : Nd) : Nd := { n with path := Lib.trimPrefix (Lib.trimPrefix n.path p) [47] }
theorem trim_no {l : List UInt8} (h : l.head? ≠ some 47) : Lib.trimPrefix l [47] = l := by
  unfold Lib.trimPrefix Lib.hasPrefix
  cases l with
  | nil => rfl
  | cons x r =>
    rw [if_neg]
    intro e
    simp [List.isPrefixOf] at e
    exact h (by simp [e])
theorem path_head {n : List UInt8} (h : pathL n = true) : n.head? ≠ some 47 := by
  cases n with
  | nil => simp
  | cons x r =>
    intro e
    simp at e
    subst e
    have := path_pre (q := []) (r := r) h
    rw [path_nil] at this
    cases this
theorem trim_nil {n : Nd} (h : pathL n.path = true) : trimN [] n = n := by
  unfold trimN
  rw [show Lib.trimPrefix n.path [] = n.path by unfold Lib.trimPrefix; simp [Lib.hasPrefix], trim_no (path_head h)]
theorem trim_pre (p r : List UInt8) : Lib.trimPrefix (p ++ r) p = r := by
  unfold Lib.trimPrefix Lib.hasPrefix
  rw [if_pos (List.isPrefixOf_iff_prefix.2 ⟨r, rfl⟩), List.drop_left]
theorem trim_cut {n : Nd} {p : List UInt8} (hn : pathL n.path = true) (hp : p ≠ []) (h : withinL n.path p = true) : trimN p n = cutN p n := by
  obtain ⟨q, e⟩ := (within_iff hn hp).1 h
  unfold trimN cutN
  rw [e]
  by_cases hq : q = []
  · rw [hq, place_nil, if_pos rfl]
    congr 1
    have := trim_pre p []
    rw [List.append_nil] at this
    rw [this]
    rfl
  · rw [place_ne p hq, if_neg]
    · congr 1
      rw [trim_pre]
      have := trim_pre [47] q
      rw [show [47] ++ q = 47 :: q from rfl] at this
      rw [this]
      rw [show p ++ 47 :: q = (p ++ [47]) ++ q by simp, show p.length + 1 = (p ++ [47]).length by simp, List.drop_left]
    · intro e2
      have := congrArg List.length e2
      simp at this
/-- What the program's At gathers. -/
theorem Cut.at {t : List Nd} {p : List UInt8} {i j : Nat} (ht : Tree t) (h : Cut t p i j) : atL t p = (if p = [] then [root] else []) ++ ((t.take j).drop i).map (trimN p) := by
  unfold atL
  rw [if_pos ((tree_iff t).2 ht)]
  by_cases h0 : p = []
  · subst h0
    rw [if_pos rfl, if_pos rfl, h.all ht.path]
    have : t.map (trimN []) = t := by
      conv => rhs; rw [← List.map_id t]
      exact List.map_congr_left fun n hn => trim_nil (ht.path n hn)
    rw [this]
    rfl
  · rw [if_neg h0, if_neg h0, h.filter ht.path, List.nil_append]
    refine List.map_congr_left fun n hn => ?_
    obtain ⟨m, _, _, e⟩ := mem_mid hn
    exact (trim_cut (ht.path n (List.mem_of_getElem? e)) h0 (h.b n hn).2).symm
/-- A node's path as the program counts it from the root. -/
def underN (p : List UInt8) (n : Nd) : Nd := { n with path := Lib.trimSuffix (p ++ 47 :: n.path) [47] }
theorem suffix_snoc (l : List UInt8) : Lib.trimSuffix (l ++ [47]) [47] = l := by
  unfold Lib.trimSuffix Lib.hasSuffix
  rw [if_pos (List.isSuffixOf_iff_suffix.2 ⟨l, rfl⟩)]
  simp
theorem suffix_no {l : List UInt8} (h : l.getLast? ≠ some 47) : Lib.trimSuffix l [47] = l := by
  unfold Lib.trimSuffix Lib.hasSuffix
  rw [if_neg]
  intro e
  obtain ⟨r, e⟩ := List.isSuffixOf_iff_suffix.1 e
  exact h (by rw [← e]; simp)
theorem path_last {n : List UInt8} (h : pathL n = true) : n.getLast? ≠ some 47 := by
  intro e
  obtain ⟨r, rfl⟩ := List.getLast?_eq_some_iff.1 e
  exact path_tail_ne (p := r) (r := []) h rfl
theorem under_place {p : List UInt8} {n : Nd} (h : n.path = [] ∨ pathL n.path = true) : underN p n = placeN p n := by
  unfold underN placeN
  congr 1
  rcases h with h | h
  · rw [h, place_nil]
    exact suffix_snoc p
  · rw [place_ne p (path_ne h)]
    refine suffix_no ?_
    have := path_last h
    rw [List.getLast?_append]
    intro e
    apply this
    have hne := path_ne h
    obtain ⟨x, r, hx⟩ := List.exists_cons_of_ne_nil hne
    rw [hx] at e ⊢
    simpa using e
theorem under_all {p : List UInt8} {v : List Nd} (h : rightV v = true) : v.map (underN p) = v.map (placeN p) := List.map_congr_left fun n hn => under_place (((val_iff v).1 h).path n hn)
/- step by step -/
def goesB (l : List Nd) (p : List UInt8) : Bool := (match l.getLast? with | none => true | some y => decide (ordL y.path p < 0)) && dirB l (parentL p)
theorem sorted_pre {a b : List Nd} (h : Sorted (a ++ b)) : Sorted a := (List.pairwise_append.1 h).1
theorem tree_prefix {a b : List Nd} (h : Tree (a ++ b)) : Tree a := by
  refine ⟨?_, sorted_pre h.sorted, fun n hn => h.path n (List.mem_append_left _ hn), fun n hn => h.right n (List.mem_append_left _ hn), fun n hn => ?_⟩
  · have := h.len
    rw [List.length_append] at this
    omega
  · rcases h.dir n (List.mem_append_left _ hn) with e | ⟨d, hd, e, k⟩
    · exact .inl e
    · rcases List.mem_append.1 hd with hd | hd
      · exact .inr ⟨d, hd, e, k⟩
      · have h1 : ordL n.path d.path < 0 := (List.pairwise_append.1 h.sorted).2.2 n hn d hd
        have h2 := up_lt (h.path n (List.mem_append_left _ hn))
        rw [e] at h1
        exact absurd h1 (ord_neg h2)
theorem tree_take {t : List Nd} (h : treeB t = true) (k : Nat) : treeB (t.take k) = true := by
  have := (tree_iff t).1 h
  rw [← List.take_append_drop k t] at this
  exact (tree_iff _).2 (tree_prefix this)
theorem sorted_snoc {l : List Nd} {x : Nd} (hl : Sorted l) : Sorted (l ++ [x]) ↔ (match l.getLast? with | none => true | some y => decide (ordL y.path x.path < 0)) = true := by
  rcases List.eq_nil_or_concat l with rfl | ⟨r, y, rfl⟩
  · simp [Sorted]
  · rw [List.concat_eq_append] at hl ⊢
    rw [List.getLast?_append, List.getLast?_singleton]
    simp only [Option.some_or, decide_eq_true_eq]
    have hl' := hl
    unfold Sorted at hl ⊢
    rw [List.pairwise_append]
    constructor
    · rintro ⟨_, _, h⟩; exact h y (by simp) x (by simp)
    · intro h
      refine ⟨hl', List.pairwise_singleton _ _, fun n hn m hm => ?_⟩
      rw [List.mem_singleton] at hm
      subst hm
      rcases List.mem_append.1 hn with hn | hn
      · exact ord_lt ((List.pairwise_append.1 hl).2.2 n hn y (by simp)) h
      · rw [List.mem_singleton] at hn; subst hn; exact h
theorem tree_snoc {l : List Nd} {x : Nd} (hl : treeB l = true) (hm : l.length < 1000) : treeB (l ++ [x]) = (pathL x.path && rightB x && goesB l x.path) := by
  have ht := (tree_iff l).1 hl
  rw [Bool.eq_iff_iff, tree_iff, Bool.and_eq_true, Bool.and_eq_true]
  unfold goesB
  rw [Bool.and_eq_true, ← sorted_snoc ht.sorted]
  constructor
  · intro h
    have hxp := h.path x (by simp)
    refine ⟨⟨hxp, h.right x (by simp)⟩, h.sorted, ?_⟩
    rw [show parentL x.path = upL x.path by unfold parentL; rw [if_pos hxp]]
    refine (dir_iff ht.sorted _).2 ?_
    rcases h.dir x (by simp) with e | ⟨d, hd, e, k⟩
    · exact .inl e
    · rcases List.mem_append.1 hd with hd | hd
      · exact .inr ⟨d, hd, e, k⟩
      · rw [List.mem_singleton] at hd
        subst hd
        have := up_lt hxp
        rw [← e] at this
        exact absurd this (ord_irr _)
  · rintro ⟨⟨h1, h2⟩, h3, h4⟩
    rw [show parentL x.path = upL x.path by unfold parentL; rw [if_pos h1]] at h4
    have h5 := (dir_iff ht.sorted _).1 h4
    have up : ∀ q, Dir l q → Dir (l ++ [x]) q := fun q hq => by
      rcases hq with e | ⟨d, hd, e, k⟩
      · exact .inl e
      · exact .inr ⟨d, List.mem_append_left _ hd, e, k⟩
    refine ⟨by rw [List.length_append, List.length_singleton]; omega, h3, fun n hn => ?_, fun n hn => ?_, fun n hn => ?_⟩
    · rcases List.mem_append.1 hn with hn | hn
      · exact ht.path n hn
      · rw [List.mem_singleton] at hn; subst hn; exact h1
    · rcases List.mem_append.1 hn with hn | hn
      · exact ht.right n hn
      · rw [List.mem_singleton] at hn; subst hn; exact h2
    · rcases List.mem_append.1 hn with hn | hn
      · exact up _ (ht.dir n hn)
      · rw [List.mem_singleton] at hn; subst hn; exact up _ h5
theorem tree_step {t : List Nd} {k : Nat} {x : Nd} (hx : t[k]? = some x) (h : treeB (t.take k) = true) (hm : t.length ≤ 1000) : treeB (t.take (k + 1)) = (pathL x.path && rightB x && goesB (t.take k) x.path) := by
  have hk := (List.getElem?_eq_some_iff.1 hx).1
  rw [List.take_add_one, hx, Option.toList_some]
  exact tree_snoc h (by rw [List.length_take]; omega)
theorem tree_stop {t : List Nd} {k : Nat} (h : treeB (t.take k) = false) : treeB t = false := by
  rw [Bool.eq_false_iff]
  intro e
  rw [tree_take e k] at h
  cases h
end Go.Proofs.YtjkikkpbeceeeaaGreatDoor.TP
