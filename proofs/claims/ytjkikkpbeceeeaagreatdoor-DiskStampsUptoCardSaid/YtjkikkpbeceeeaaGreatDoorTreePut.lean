/- Layer 6 over lists: what is put is there, and all else is as it was (no program is read here). -/
import Derived.Test.YtjkikkpbeceeeaaGreatDoorTreePlain
namespace Go.Proofs.YtjkikkpbeceeeaaGreatDoor.TP
open Go NP

theorem up_lt {n : List UInt8} (hn : pathL n = true) : ordL (upL n) n < 0 := by
  have h0 := path_ne hn
  by_cases hu : upL n = []
  · rw [hu]
    obtain ⟨x, r, rfl⟩ := List.exists_cons_of_ne_nil h0
    show (-1 : Int) < 0
    decide
  · obtain ⟨hp, hw⟩ := up_path hn hu
    have h1 := ord_below hu hw
    rcases ord_tri (upL n) n with e | e | e
    · exact e
    · have := up_short h0
      rw [e] at this
      omega
    · have := ordL_swap n (upL n)
      omega
theorem nil_lt {n : List UInt8} (h : n ≠ []) : ordL [] n < 0 := by
  obtain ⟨x, r, rfl⟩ := List.exists_cons_of_ne_nil h
  show (-1 : Int) < 0
  decide
/-- What a value is. -/
structure Val (v : List Nd) : Prop where
  sorted : Sorted v
  len : v.length ≤ 1000
  right : ∀ m ∈ v, rightB m = true
  path : ∀ m ∈ v, m.path = [] ∨ pathL m.path = true
  dir : ∀ m ∈ v, m.path ≠ [] → ∃ d ∈ v, d.path = upL m.path ∧ d.kind = 2
theorem Val.nil : Val [] := ⟨List.Pairwise.nil, by simp, by simp, by simp, by simp⟩
theorem val_iff (v : List Nd) : rightV v = true ↔ Val v := by
  cases v with
  | nil => exact ⟨fun _ => Val.nil, fun _ => rfl⟩
  | cons h r =>
    unfold rightV
    simp only [Bool.and_eq_true, Bool.or_eq_true, decide_eq_true_eq]
    constructor
    · rintro ⟨⟨⟨h1, h2⟩, h3⟩, h4⟩
      have key : r = [] ∨ h.kind = 2 ∧ Tree r := h4.imp id fun e => ⟨e.1, (tree_iff r).1 e.2⟩
      rcases key with rfl | ⟨hk, ht⟩
      · refine ⟨List.pairwise_singleton _ _, by simp, fun m hm => ?_, fun m hm => ?_, fun m hm hne => ?_⟩
        · simp at hm; rw [hm]; exact h2
        · simp at hm; rw [hm]; exact .inl h1
        · simp at hm; rw [hm] at hne; exact absurd h1 hne
      · refine ⟨List.Pairwise.cons (fun m hm => ?_) ht.sorted, h3, fun m hm => ?_, fun m hm => ?_, fun m hm hne => ?_⟩
        · unfold lt; rw [h1]; exact nil_lt (path_ne (ht.path m hm))
        · rcases List.mem_cons.1 hm with rfl | hm
          · exact h2
          · exact ht.right m hm
        · rcases List.mem_cons.1 hm with rfl | hm
          · exact .inl h1
          · exact .inr (ht.path m hm)
        · rcases List.mem_cons.1 hm with rfl | hm
          · exact absurd h1 hne
          · rcases ht.dir m hm with e | ⟨d, hd, e1, e2⟩
            · exact ⟨h, List.mem_cons_self .., by rw [h1, e], hk⟩
            · exact ⟨d, List.mem_cons_of_mem _ hd, e1, e2⟩
    · intro hv
      have hs := hv.sorted
      have h1 : h.path = [] := by
        by_cases e : h.path = []
        · exact e
        · exfalso
          obtain ⟨d, hd, e1, _⟩ := hv.dir h (List.mem_cons_self ..) e
          have hp : pathL h.path = true := (hv.path h (List.mem_cons_self ..)).resolve_left e
          have hlt := up_lt hp
          rw [← e1] at hlt
          rcases List.mem_cons.1 hd with rfl | hd
          · exact ord_irr _ hlt
          · exact ord_neg (List.rel_of_pairwise_cons hs hd) hlt
      have hne : ∀ m ∈ r, m.path ≠ [] := fun m hm e => by
        have : lt h m := List.rel_of_pairwise_cons hs hm
        unfold lt at this
        rw [h1, e] at this
        exact ord_irr _ this
      have ht : Tree r := ⟨by have := hv.len; simp at this; omega, List.Pairwise.of_cons hs, fun m hm => (hv.path m (List.mem_cons_of_mem _ hm)).resolve_left (hne m hm), fun m hm => hv.right m (List.mem_cons_of_mem _ hm), fun m hm => by
        obtain ⟨d, hd, e1, e2⟩ := hv.dir m (List.mem_cons_of_mem _ hm) (hne m hm)
        rcases List.mem_cons.1 hd with rfl | hd
        · exact .inl (by rw [← e1, h1])
        · exact .inr ⟨d, hd, e1, e2⟩⟩
      refine ⟨⟨⟨h1, hv.right h (List.mem_cons_self ..)⟩, hv.len⟩, ?_⟩
      cases r with
      | nil => exact .inl rfl
      | cons m r =>
        refine .inr ⟨?_, (tree_iff _).2 ht⟩
        obtain ⟨d, hd, e1, e2⟩ := hv.dir m (by simp) (hne m (by simp))
        have hlt := up_lt (ht.path m (by simp))
        rw [← e1] at hlt
        rcases List.mem_cons.1 hd with rfl | hd
        · exact e2
        · exfalso
          rcases List.mem_cons.1 hd with rfl | hd
          · exact ord_irr _ hlt
          · exact ord_neg (List.rel_of_pairwise_cons ht.sorted hd) hlt
theorem Val.head {v : List Nd} (h : Val v) (h0 : v ≠ []) : ∃ m ∈ v, m.path = [] := by
  have h1 := (val_iff v).2 h
  cases v with
  | nil => exact absurd rfl h0
  | cons m r =>
    unfold rightV at h1
    simp only [Bool.and_eq_true, decide_eq_true_eq] at h1
    exact ⟨m, List.mem_cons_self .., h1.1.1.1⟩
theorem Val.below {v : List Nd} (h : Val v) {m : Nd} (hm : m ∈ v) (hne : m.path ≠ []) : pathL m.path = true := (h.path m hm).resolve_left hne

/- to place and to cut -/
theorem placeN_inj {p : List UInt8} {a b : Nd} (h : placeN p a = placeN p b) : a = b := by
  unfold placeN at h
  cases a; cases b
  simp only [Nd.mk.injEq] at h ⊢
  exact ⟨place_inj h.1, h.2⟩
theorem cut_place (p : List UInt8) (n : Nd) : cutN p (placeN p n) = n := by
  unfold cutN placeN
  cases n with
  | mk q k d m =>
    simp only [Nd.mk.injEq, and_true]
    by_cases hq : q = []
    · rw [hq, place_nil, if_pos rfl]
    · rw [place_ne p hq, if_neg (fun e => by have := congrArg List.length e; simp at this), show p.length + 1 = (p ++ [47]).length by simp, show p ++ 47 :: q = (p ++ [47]) ++ q by simp, List.drop_left]
theorem place_within {p : List UInt8} (hp : p ≠ []) {n : Nd} (h : pathL (place p n.path) = true) : withinL (placeN p n).path p = true := (within_iff h hp).2 ⟨_, rfl⟩
theorem within_place {p : List UInt8} (hp : p ≠ []) {y : Nd} (h : withinL y.path p = true) : ∃ n, y = placeN p n := by
  obtain ⟨q, e⟩ := (within_iff (within_path h) hp).1 h
  exact ⟨{ y with path := q }, by unfold placeN; cases y; simp_all⟩

/- what stands at a path -/
theorem at_mem {t : List Nd} (ht : Tree t) {p : List UInt8} (hp : pathL p = true) (n : Nd) : n ∈ atL t p ↔ placeN p n ∈ t := by
  unfold atL
  rw [if_pos ((tree_iff t).2 ht), if_neg (path_ne hp), List.mem_map]
  constructor
  · rintro ⟨y, hy, rfl⟩
    rw [List.mem_filter] at hy
    obtain ⟨m, rfl⟩ := within_place (path_ne hp) hy.2
    rw [cut_place]
    exact hy.1
  · intro h
    exact ⟨placeN p n, List.mem_filter.2 ⟨h, place_within (path_ne hp) (ht.path _ h)⟩, cut_place p n⟩
theorem at_sorted {t : List Nd} (ht : Tree t) {p : List UInt8} (hp : pathL p = true) : Sorted (atL t p) := by
  unfold atL
  rw [if_pos ((tree_iff t).2 ht), if_neg (path_ne hp)]
  unfold Sorted
  rw [List.pairwise_map]
  refine List.Pairwise.imp_of_mem (fun {a b} ha hb hlt => ?_) (sorted_filter ht.sorted _)
  rw [List.mem_filter] at ha hb
  obtain ⟨m, rfl⟩ := within_place (path_ne hp) ha.2
  obtain ⟨k, rfl⟩ := within_place (path_ne hp) hb.2
  unfold lt at hlt ⊢
  rw [cut_place, cut_place]
  have e := ord_place p m.path k.path
  rw [← e]
  exact hlt
theorem at_val {t : List Nd} (ht : Tree t) {p : List UInt8} (hp : pathL p = true) : Val (atL t p) := by
  have hp0 := path_ne hp
  refine ⟨at_sorted ht hp, ?_, fun m hm => ?_, fun m hm => ?_, fun m hm hne => ?_⟩
  · unfold atL
    rw [if_pos ((tree_iff t).2 ht), if_neg hp0, List.length_map]
    exact Nat.le_trans (List.length_filter_le _ _) ht.len
  · have := ht.right _ ((at_mem ht hp m).1 hm)
    exact this
  · by_cases e : m.path = []
    · exact .inl e
    · have := ht.path _ ((at_mem ht hp m).1 hm)
      unfold placeN at this
      rw [place_ne p e] at this
      exact .inr (path_tail this)
  · have hy := (at_mem ht hp m).1 hm
    have hpy := ht.path _ hy
    have hup : upL (placeN p m).path = place p (upL m.path) := up_place hne hpy
    have hw := place_within hp0 hpy
    have hnp : (placeN p m).path ≠ p := fun e => hne (place_inj (p := p) (by rw [place_nil]; exact e))
    obtain ⟨hu, _, _⟩ := within_up hw hp0 hnp
    rcases ht.dir _ hy with e | ⟨d, hd, e1, e2⟩
    · exact absurd e hu
    · refine ⟨{ d with path := upL m.path }, (at_mem ht hp _).2 ?_, rfl, e2⟩
      have : placeN p { d with path := upL m.path } = d := by
        unfold placeN
        cases d
        simp only at e1 ⊢
        rw [e1, hup]
      rw [this]
      exact hd

/- a value put in a place -/
theorem mem_out (t : List Nd) (p : List UInt8) (v : List Nd) (n : Nd) : n ∈ outL t p v ↔ (n ∈ t ∧ withinL n.path p = false) ∨ ∃ m ∈ v, placeN p m = n := by
  unfold outL
  rw [List.mem_append, List.mem_append, List.mem_filter, List.mem_filter, List.mem_map]
  simp only [Bool.and_eq_true, Bool.not_eq_true', decide_eq_true_eq, decide_eq_false_iff_not]
  constructor
  · rintro (⟨a, b, _⟩ | h | ⟨a, b, _⟩)
    · exact .inl ⟨a, b⟩
    · exact .inr h
    · exact .inl ⟨a, b⟩
  · rintro (⟨a, b⟩ | h)
    · by_cases c : ordL n.path p < 0
      · exact .inl ⟨a, b, c⟩
      · exact .inr (.inr ⟨a, b, c⟩)
    · exact .inr (.inl h)
theorem out_sorted {t : List Nd} (ht : Tree t) {p : List UInt8} (hp : pathL p = true) {v : List Nd} (hv : Sorted v) (hq : ∀ m ∈ v, pathL (place p m.path) = true) : Sorted (outL t p v) := by
  have hp0 := path_ne hp
  have hw : ∀ m ∈ v, withinL (placeN p m).path p = true := fun m hm => place_within hp0 (hq m hm)
  have hvs : Sorted (v.map (placeN p)) := by
    unfold Sorted
    rw [List.pairwise_map]
    refine List.Pairwise.imp (fun {a b} h => ?_) hv
    unfold lt at h ⊢
    have e := ord_place p a.path b.path
    show ordL (place p a.path) (place p b.path) < 0
    rw [e]
    exact h
  unfold outL Sorted
  rw [List.pairwise_append, List.pairwise_append]
  refine ⟨sorted_filter ht.sorted _, ⟨hvs, sorted_filter ht.sorted _, fun a ha b hb => ?_⟩, fun a ha b hb => ?_⟩
  · obtain ⟨m, hm, rfl⟩ := List.mem_map.1 ha
    rw [List.mem_filter] at hb
    simp only [Bool.and_eq_true, Bool.not_eq_true', decide_eq_false_iff_not] at hb
    exact ord_behind hp (ht.path b hb.1) hb.2.1 (hw m hm) hb.2.2
  · rw [List.mem_filter] at ha
    simp only [Bool.and_eq_true, Bool.not_eq_true', decide_eq_true_eq] at ha
    rcases List.mem_append.1 hb with hb | hb
    · obtain ⟨m, hm, rfl⟩ := List.mem_map.1 hb
      exact ord_ahead hp0 (hw m hm) ha.2.2
    · rw [List.mem_filter] at hb
      simp only [Bool.and_eq_true, Bool.not_eq_true', decide_eq_false_iff_not] at hb
      have h1 : ordL p b.path ≤ 0 := by
        have := ordL_swap p b.path
        omega
      exact ordL_lt ha.2.2 h1
/-- What makes a Put go through. -/
structure PutOk (t : List Nd) (p : List UInt8) (v : List Nd) : Prop where
  tree : Tree t
  val : Val v
  path : pathL p = true
  up : v ≠ [] → Dir t (upL p)
  all : ∀ m ∈ v, pathL (place p m.path) = true
  len : (outL t p v).length ≤ 1000
theorem put_cases (t : List Nd) (p : List UInt8) (v : List Nd) : (PutOk t p v ∧ putL t p v = (outL t p v, 0)) ∨ ∃ e, putL t p v = ([], e + 1) := by
  unfold putL
  by_cases h1 : treeB t = false ∨ rightV v = false
  · rw [if_pos h1]; exact .inr ⟨59, rfl⟩
  · rw [if_neg h1]
    have ht : Tree t := (tree_iff t).1 (by cases h : treeB t with | true => rfl | false => exact absurd (.inl h) h1)
    have hv : Val v := (val_iff v).1 (by cases h : rightV v with | true => rfl | false => exact absurd (.inr h) h1)
    by_cases h2 : pathL p = false
    · rw [if_pos h2]; exact .inr ⟨10, rfl⟩
    · rw [if_neg h2]
      have hp : pathL p = true := by simpa using h2
      by_cases h3 : v ≠ [] ∧ dirB t (parentL p) = false
      · rw [if_pos h3]; exact .inr ⟨61, rfl⟩
      · rw [if_neg h3]
        by_cases h4 : (v.all fun n => pathL (place p n.path)) = false
        · rw [if_pos h4]; exact .inr ⟨10, rfl⟩
        · rw [if_neg h4]
          by_cases h5 : 1000 < (outL t p v).length
          · rw [if_pos h5]; exact .inr ⟨31, rfl⟩
          · rw [if_neg h5]
            refine .inl ⟨⟨ht, hv, hp, fun hne => ?_, ?_, by omega⟩, rfl⟩
            · have e : dirB t (parentL p) = true := by
                cases h : dirB t (parentL p) with
                | true => rfl
                | false => exact absurd ⟨hne, h⟩ h3
              rw [show parentL p = upL p by unfold parentL; rw [if_pos hp]] at e
              exact (dir_iff ht.sorted _).1 e
            · have e : (v.all fun n => pathL (place p n.path)) = true := by simpa using h4
              exact fun m hm => List.all_eq_true.1 e m hm
theorem put_of {t : List Nd} {p : List UInt8} {v : List Nd} (h : PutOk t p v) : putL t p v = (outL t p v, 0) := by
  unfold putL
  rw [if_neg (by rw [(tree_iff t).2 h.tree, (val_iff v).2 h.val]; simp), if_neg (by rw [h.path]; simp), if_neg ?_, if_neg ?_, if_neg (by have := h.len; omega)]
  · rw [List.all_eq_true.2 h.all]; simp
  · rintro ⟨hne, hd⟩
    rw [show parentL p = upL p by unfold parentL; rw [if_pos h.path], (dir_iff h.tree.sorted _).2 (h.up hne)] at hd
    cases hd
theorem up_not_within {p : List UInt8} (hp : pathL p = true) (hu : upL p ≠ []) : withinL (upL p) p = false := by
  rw [Bool.eq_false_iff]
  intro h
  have h1 := ord_below (path_ne hp) h
  have h2 := up_lt hp
  have := ordL_swap (upL p) p
  omega
theorem out_tree {t : List Nd} {p : List UInt8} {v : List Nd} (h : PutOk t p v) : Tree (outL t p v) := by
  have hp0 := path_ne h.path
  have mo := mem_out t p v
  refine ⟨h.len, out_sorted h.tree h.path h.val.sorted h.all, fun n hn => ?_, fun n hn => ?_, fun n hn => ?_⟩
  · rcases (mo n).1 hn with ⟨a, _⟩ | ⟨m, hm, rfl⟩
    · exact h.tree.path n a
    · exact h.all m hm
  · rcases (mo n).1 hn with ⟨a, _⟩ | ⟨m, hm, rfl⟩
    · exact h.tree.right n a
    · exact h.val.right m hm
  · rcases (mo n).1 hn with ⟨a, b⟩ | ⟨m, hm, rfl⟩
    · rcases h.tree.dir n a with e | ⟨d, hd, e1, e2⟩
      · exact .inl e
      · by_cases hu : upL n.path = []
        · exact .inl hu
        · refine .inr ⟨d, (mo d).2 (.inl ⟨hd, ?_⟩), e1, e2⟩
          rw [Bool.eq_false_iff]
          intro hw
          rw [e1] at hw
          rw [within_of_up (h.tree.path n a) hp0 hu hw] at b
          cases b
    · by_cases hm0 : m.path = []
      · have hpm : (placeN p m).path = p := by unfold placeN; rw [hm0, place_nil]
        rw [hpm]
        rcases h.up (fun e => by rw [e] at hm; simp at hm) with e | ⟨d, hd, e1, e2⟩
        · exact .inl e
        · by_cases hu : upL p = []
          · exact .inl hu
          · refine .inr ⟨d, (mo d).2 (.inl ⟨hd, ?_⟩), e1, e2⟩
            rw [e1]
            exact up_not_within h.path hu
      · obtain ⟨d, hd, e1, e2⟩ := h.val.dir m hm hm0
        refine .inr ⟨placeN p d, (mo _).2 (.inr ⟨d, hd, rfl⟩), ?_, e2⟩
        show place p d.path = upL (place p m.path)
        rw [up_place hm0 (h.all m hm), e1]
theorem at_put {t : List Nd} {p : List UInt8} {v : List Nd} (h : PutOk t p v) : atL (outL t p v) p = v := by
  have ht := out_tree h
  have hp0 := path_ne h.path
  refine sorted_ext (at_sorted ht h.path) h.val.sorted fun n => ?_
  rw [at_mem ht h.path, mem_out]
  constructor
  · rintro (⟨a, b⟩ | ⟨m, hm, e⟩)
    · rw [place_within hp0 (h.tree.path _ a)] at b
      cases b
    · rw [← placeN_inj e]; exact hm
  · exact fun hn => .inr ⟨n, hn, rfl⟩
theorem at_ok {t : List Nd} (ht : Tree t) {p : List UInt8} (hp : pathL p = true) : atL t p ≠ [] → Dir t (upL p) := fun hne => by
  obtain ⟨m, hm, e⟩ := (at_val ht hp).head hne
  have h1 := ht.dir _ ((at_mem ht hp m).1 hm)
  have h2 : (placeN p m).path = p := by unfold placeN; rw [e, place_nil]
  rw [h2] at h1
  exact h1
/-- What is there, put again, or put back, is all as it was. -/
theorem put_back {t x : List Nd} (ht : Tree t) (hx : Tree x) {p : List UInt8} (hp : pathL p = true) (hsame : ∀ n, withinL n.path p = false → (n ∈ x ↔ n ∈ t)) : putL x p (atL t p) = (t, 0) := by
  have hp0 := path_ne hp
  have hv := at_val ht hp
  have hall : ∀ m ∈ atL t p, pathL (place p m.path) = true := fun m hm => ht.path _ ((at_mem ht hp m).1 hm)
  have hout : outL x p (atL t p) = t := by
    refine sorted_ext (out_sorted hx hp hv.sorted hall) ht.sorted fun n => ?_
    rw [mem_out]
    constructor
    · rintro (⟨a, b⟩ | ⟨m, hm, rfl⟩)
      · exact (hsame n b).1 a
      · exact (at_mem ht hp m).1 hm
    · intro hn
      cases hw : withinL n.path p with
      | false => exact .inl ⟨(hsame n hw).2 hn, rfl⟩
      | true =>
        obtain ⟨m, rfl⟩ := within_place hp0 hw
        exact .inr ⟨m, (at_mem ht hp m).2 hn, rfl⟩
  have hok : PutOk x p (atL t p) := ⟨hx, hv, hp, fun hne => by
    rcases at_ok ht hp hne with e | ⟨d, hd, e1, e2⟩
    · exact .inl e
    · by_cases hu : upL p = []
      · exact .inl hu
      · exact .inr ⟨d, (hsame d (by rw [e1]; exact up_not_within hp hu)).2 hd, e1, e2⟩, hall, by rw [hout]; exact ht.len⟩
  rw [put_of hok, hout]
theorem put_at {t : List Nd} (ht : Tree t) {p : List UInt8} (hp : pathL p = true) : putL t p (atL t p) = (t, 0) := put_back ht ht hp fun _ _ => Iff.rfl
theorem put_restore {t : List Nd} {p : List UInt8} {v : List Nd} (h : PutOk t p v) : putL (outL t p v) p (atL t p) = (t, 0) :=
  put_back h.tree (out_tree h) h.path fun n hn => by
    rw [mem_out]
    constructor
    · rintro (⟨a, _⟩ | ⟨m, hm, rfl⟩)
      · exact a
      · rw [place_within (path_ne h.path) (h.all m hm)] at hn
        cases hn
    · exact fun a => .inl ⟨a, hn⟩
end Go.Proofs.YtjkikkpbeceeeaaGreatDoor.TP
