/- Layer 12 over lists: no item's path lies within another's; what an item tells; every difference of both replicas lies within an item. -/
import Derived.Test.YtmpmmebmhffaeaaGreatDoorQRcD
import Derived.Test.YtmpmmebmhffaeaaGreatDoorQBase
set_option linter.all false
set_option maxRecDepth 100000
set_option maxHeartbeats 25600000
namespace Go.Proofs.YtmpmmebmhffaeaaGreatDoor
open Go
namespace RC
open NP TP

/-- A path is the other, or lies below it; below the root is all. -/
def inP (q p : List UInt8) : Bool := decide (p = []) || withinL q p
theorem inP_root (q : List UInt8) : inP q [] = true := rfl
theorem inP_ne {q p : List UInt8} (h : p ≠ []) : inP q p = withinL q p := by unfold inP; rw [decide_eq_false h]; rfl
theorem inP_self {p : List UInt8} (h : p = [] ∨ pathL p = true) : inP p p = true := by
  rcases h with rfl | h
  · rfl
  · rw [inP_ne (path_ne h)]; exact within_self h
theorem inP_below {p k : List UInt8} (hp : p = [] ∨ pathL p = true) (hq : pathL (belowP p k) = true) (hk0 : k ≠ []) : inP (belowP p k) p = true := by
  rcases hp with rfl | hp
  · rfl
  · rw [inP_ne (path_ne hp), TP.within_iff hq (path_ne hp)]
    exact ⟨k, by rw [place_ne p hk0, below_ne hp]⟩
theorem inP_trans {a b c : List UInt8} (h1 : inP a b = true) (hb : pathL b = true) (h2 : inP b c = true) : inP a c = true := by
  by_cases hc : c = []
  · rw [hc]; rfl
  · rw [inP_ne hc] at h2 ⊢
    rw [inP_ne (path_ne hb)] at h1
    exact within_trans h1 (path_ne hb) h2 hc
/-- What lies within a name below p: that is its name there. -/
theorem key_of {q p k : List UInt8} (hp : p = [] ∨ pathL p = true) (hq : pathL q = true) (hk0 : k ≠ []) (hk : 47 ∉ k) (hpk : pathL (belowP p k) = true) : inP q (belowP p k) = true ↔ inP q p = true ∧ q ≠ p ∧ keyL p.length q = k := by
  rw [inP_ne (path_ne hpk)]
  rcases hp with rfl | hp
  · rw [below_nil]
    show _ ↔ inP q [] = true ∧ q ≠ [] ∧ keyL 0 q = k
    rw [key_0 hq]
    exact ⟨fun h => ⟨rfl, path_ne hq, (key_within hq hk0 hk).2 h⟩, fun h => (key_within hq hk0 hk).1 h.2.2⟩
  · rw [inP_ne (path_ne hp), below_ne hp]
    rw [below_ne hp] at hpk
    have hwp : withinL (p ++ 47 :: k) p = true := by
      rw [TP.within_iff hpk (path_ne hp)]
      exact ⟨k, by rw [place_ne p hk0]⟩
    constructor
    · intro h
      have h1 := within_trans h (path_ne hpk) hwp (path_ne hp)
      have hne : q ≠ p := fun e => by
        rw [e] at h
        obtain ⟨u, hu⟩ := (TP.within_iff hp (by simp)).1 h
        have := congrArg List.length hu
        unfold place at this
        split at this
        · rw [List.length_append, List.length_cons] at this; omega
        · rw [List.length_append, List.length_append, List.length_cons] at this; omega
      obtain ⟨s, e, hs, he⟩ := key_p hp hq h1 hne
      refine ⟨h1, hne, ?_⟩
      rw [he]
      exact (key_within hs hk0 hk).2 ((within_place hq (path_ne hp) s e hs hk0).1 h)
    · rintro ⟨h1, hne, h2⟩
      obtain ⟨s, e, hs, he⟩ := key_p hp hq h1 hne
      rw [he] at h2
      exact (within_place hq (path_ne hp) s e hs hk0).2 ((key_within hs hk0 hk).1 h2)
/-- A node of a tree that lies within p is in its value there. -/
theorem mem_val {t : List Nd} (ht : Tree t) {p : List UInt8} {n : Nd} (hn : n ∈ t) (hi : inP n.path p = true) : n ∈ valP t p := by
  by_cases hp : p = []
  · rw [hp, valP_nil]; exact List.mem_cons_of_mem _ hn
  · rw [inP_ne hp] at hi
    rw [valP_ne t hp]
    exact List.mem_filter.2 ⟨hn, hi⟩
/-- Its name is one of that value's. -/
theorem mem_key {t : List Nd} (ht : Tree t) {p : List UInt8} (hp : p = [] ∨ pathL p = true) {n : Nd} (hn : n ∈ t) (hi : inP n.path p = true) (hne : n.path ≠ p) : keyL p.length n.path ∈ keysL (valP t p) := by
  have hm := mem_val ht hn hi
  cases hv : valP t p with
  | nil => rw [hv] at hm; cases hm
  | cons h r =>
    have hh : h.path = p := by
      rcases hp with rfl | hp
      · rw [valP_nil] at hv
        injection hv with hv
        rw [← hv]; rfl
      · exact (head_p ht hp hv).1
    rw [hv] at hm
    rcases List.mem_cons.1 hm with e | hm
    · exact absurd (by rw [e, hh]) hne
    · show _ ∈ r.map _
      rw [hh]
      exact List.mem_map.2 ⟨n, hm, rfl⟩
theorem right_dir {n : Nd} (h : rightB n = true) (hk : n.kind = 2) : n = ⟨n.path, 2, [], 0⟩ := by
  unfold rightB at h
  rw [if_neg (by rw [hk]; decide), if_pos hk, Bool.and_eq_true, decide_eq_true_eq, decide_eq_true_eq] at h
  obtain ⟨a, b, c, d⟩ := n
  simp only at h hk ⊢
  rw [hk, h.1, h.2]
/-- Where a value is a directory, its node is. -/
theorem dir_node {t : List Nd} (ht : Tree t) {p : List UInt8} (hp : pathL p = true) (hd : dirV (valP t p) = true) : (⟨p, 2, [], 0⟩ : Nd) ∈ t := by
  cases hv : valP t p with
  | nil => rw [hv] at hd; cases hd
  | cons h r =>
    rw [hv] at hd
    obtain ⟨h1, h2, _⟩ := head_p ht hp hv
    have hk : h.kind = 2 := by unfold dirV at hd; simpa using hd
    rw [← h1, ← right_dir (ht.right _ h2) hk]
    exact h2
/-- Both have something at a path, or one of them: not the same. -/
def unlike (a b : List Nd) (q : List UInt8) : Prop := ∃ n : Nd, n.path = q ∧ ((n ∈ a ∧ n ∉ b) ∨ (n ∈ b ∧ n ∉ a))
structure ItOk (a b : List Nd) (p : List UInt8) (L : List It) : Prop where
  inn : ∀ i ∈ L, (i.1 = [] ∨ pathL i.1 = true) ∧ inP i.1 p = true
  apart : L.Pairwise fun i j => inP j.1 i.1 = false ∧ inP i.1 j.1 = false
  tell : ∀ i ∈ L, (valP a i.1 = valP b i.1 ↔ i.2 = 1)
  all : ∀ q, pathL q = true → inP q p = true → unlike a b q → ∃ i ∈ L, inP q i.1 = true
theorem one_ok {a b : List Nd} {p : List UInt8} (hp : p = [] ∨ pathL p = true) (v : Int) (h : valP a p = valP b p ↔ v = 1) : ItOk a b p [(p, v)] where
  inn := fun i hi => by
    rw [List.mem_singleton.1 hi]
    exact ⟨hp, inP_self hp⟩
  apart := List.pairwise_singleton _ _
  tell := fun i hi => by
    rw [List.mem_singleton.1 hi]
    exact h
  all := fun q _ h1 _ => ⟨_, List.mem_singleton.2 rfl, h1⟩
theorem same_like {a b : List Nd} (ha : Tree a) (hb : Tree b) {p q : List UInt8} (h : valP a p = valP b p) (hq : pathL q = true) (hi : inP q p = true) : ¬ unlike a b q := by
  rintro ⟨n, rfl, ⟨h1, h2⟩ | ⟨h1, h2⟩⟩
  · have := mem_val ha h1 hi
    rw [h] at this
    rcases val_mem this with e | e
    · rw [e] at hq; exact absurd hq (by decide)
    · exact h2 e
  · have := mem_val hb h1 hi
    rw [← h] at this
    rcases val_mem this with e | e
    · rw [e] at hq; exact absurd hq (by decide)
    · exact h2 e
theorem items_ok {xo ta tb : List Nd} (ho : Tree xo) (ha : Tree ta) (hb : Tree tb) : ∀ (N : Nat) (p : List UInt8), (p = [] ∨ pathL p = true) → (valP ta p).length < N → ItOk ta tb p (itemsL p (valP xo p) (valP ta p) (valP tb p))
  | 0, _, _, h => absurd h (Nat.not_lt_zero _)
  | N + 1, p, hp, hN => by
    rw [items_step]
    by_cases h1 : valP ta p = valP tb p
    · rw [if_pos h1]
      split
      · exact ⟨fun i hi => (by cases hi), List.Pairwise.nil, fun i hi => (by cases hi), fun q hq hi hu => absurd hu (same_like ha hb h1 hq hi)⟩
      · exact one_ok hp 1 ⟨fun _ => rfl, fun _ => h1⟩
    rw [if_neg h1]
    by_cases h2 : dirV (valP ta p) = true ∧ dirV (valP tb p) = true
    · rw [if_pos h2]
      have hne : valP ta p ≠ [] := fun e => by rw [e] at h2; cases h2.1
      have IH : ∀ k ∈ namesK (valP xo p) (valP ta p) (valP tb p), ItOk ta tb (belowP p k) (itemsL (belowP p k) (subL (valP xo p) k) (subL (valP ta p) k) (subL (valP tb p) k)) := fun k hk => by
        obtain ⟨n1, n2, n3, n4, -⟩ := name_ok ho ha hb hp hk
        have hl := sub_len (valP ta p) k hne
        rw [n3] at hl
        rw [n2, n3, n4]
        exact items_ok ho ha hb N (belowP p k) (.inr n1) (by omega)
      have HK : ∀ k ∈ namesK (valP xo p) (valP ta p) (valP tb p), k ≠ [] ∧ 47 ∉ k ∧ pathL (belowP p k) = true := fun k hk => by
        rcases keys_ok hk with h | h | h
        · exact key_name ho hp h
        · exact key_name ha hp h
        · exact key_name hb hp h
      have HB : ∀ k ∈ namesK (valP xo p) (valP ta p) (valP tb p), ∀ i ∈ itemsL (belowP p k) (subL (valP xo p) k) (subL (valP ta p) k) (subL (valP tb p) k), pathL i.1 = true ∧ inP i.1 p = true ∧ i.1 ≠ p ∧ keyL p.length i.1 = k := fun k hk i hi => by
        obtain ⟨k1, k2, k3⟩ := HK k hk
        obtain ⟨i1, i2⟩ := (IH k hk).inn i hi
        have hpi : pathL i.1 = true := by
          rcases i1 with e | e
          · rw [inP_ne (path_ne k3)] at i2
            exact within_path i2
          · exact e
        exact ⟨hpi, (key_of hp hpi k1 k2 k3).1 i2⟩
      refine ⟨fun i hi => ?_, ?_, fun i hi => ?_, fun q hq hi hu => ?_⟩
      · obtain ⟨k, hk, hi⟩ := List.mem_flatMap.1 hi
        have := HB k hk i hi
        exact ⟨.inr this.1, this.2.1⟩
      · rw [List.pairwise_flatMap]
        refine ⟨fun k hk => (IH k hk).apart, ?_⟩
        refine List.Pairwise.imp_of_mem ?_ (sorted_ordK (keysL (valP xo p) ++ keysL (valP ta p) ++ keysL (valP tb p)))
        intro k1 k2 hk1 hk2 hlt i hi j hj
        have b1 := HB k1 hk1 i hi
        have b2 := HB k2 hk2 j hj
        have hd : k1 ≠ k2 := fun e => by rw [e, lex_irr] at hlt; cases hlt
        obtain ⟨a1, a2, a3⟩ := HK k1 hk1
        obtain ⟨c1, c2, c3⟩ := HK k2 hk2
        have i1 := ((IH k1 hk1).inn i hi).2
        have j1 := ((IH k2 hk2).inn j hj).2
        constructor
        · refine Bool.eq_false_iff.2 fun h => ?_
          have := ((key_of hp b2.1 a1 a2 a3).1 (inP_trans h b1.1 i1)).2.2
          exact hd (by rw [← this, b2.2.2.2])
        · refine Bool.eq_false_iff.2 fun h => ?_
          have := ((key_of hp b1.1 c1 c2 c3).1 (inP_trans h b2.1 j1)).2.2
          exact hd (by rw [← this, b1.2.2.2])
      · obtain ⟨k, hk, hi⟩ := List.mem_flatMap.1 hi
        exact (IH k hk).tell i hi
      · by_cases hqp : q = p
        · exfalso
          rcases hp with rfl | hp
          · rw [hqp] at hq; exact absurd hq (by decide)
          · have da := dir_node ha hp h2.1
            have db := dir_node hb hp h2.2
            obtain ⟨n, hn, ⟨h3, h4⟩ | ⟨h3, h4⟩⟩ := hu
            · have := sorted_one ha.sorted h3 da (by rw [hn, hqp])
              exact h4 (by rw [this]; exact db)
            · have := sorted_one hb.sorted h3 db (by rw [hn, hqp])
              exact h4 (by rw [this]; exact da)
        · have hk : keyL p.length q ∈ namesK (valP xo p) (valP ta p) (valP tb p) := by
            unfold namesK
            rw [mem_ordK]
            simp only [List.mem_append]
            obtain ⟨n, hn, ⟨h3, _⟩ | ⟨h3, _⟩⟩ := hu
            · subst hn
              exact .inl (.inr (mem_key ha hp h3 hi hqp))
            · subst hn
              exact .inr (mem_key hb hp h3 hi hqp)
          obtain ⟨k1, k2, k3⟩ := HK _ hk
          obtain ⟨i, hi2, hi3⟩ := (IH _ hk).all q hq ((key_of hp hq k1 k2 k3).2 ⟨hi, hqp, rfl⟩) hu
          exact ⟨i, List.mem_flatMap.2 ⟨_, hk, hi2⟩, hi3⟩
    · rw [if_neg h2]
      split
      · exact one_ok hp 2 ⟨fun h => absurd h h1, fun h => by cases h⟩
      · split
        · exact one_ok hp 3 ⟨fun h => absurd h h1, fun h => by cases h⟩
        · exact one_ok hp 4 ⟨fun h => absurd h h1, fun h => by cases h⟩
theorem map_inj {α β : Type} (f : α → β) : ∀ {l m : List α}, (∀ x ∈ l, ∀ y ∈ m, f x = f y → x = y) → l.map f = m.map f → l = m
  | [], [], _, _ => rfl
  | [], _ :: _, _, h => by cases h
  | _ :: _, [], _, h => by cases h
  | x :: l, y :: m, hi, h => by
    rw [List.map_cons, List.map_cons] at h
    injection h with h1 h2
    rw [hi x (List.mem_cons_self ..) y (List.mem_cons_self ..) h1, map_inj f (fun a ha b hb => hi a (List.mem_cons_of_mem _ ha) b (List.mem_cons_of_mem _ hb)) h2]
/-- What both have at a path is the same, with the paths from there or from the root. -/
theorem at_val {a b : List Nd} (ha : Tree a) (hb : Tree b) (p : List UInt8) : atL a p = atL b p ↔ valP a p = valP b p := by
  unfold atL
  rw [if_pos ((tree_iff a).2 ha), if_pos ((tree_iff b).2 hb)]
  by_cases hp : p = []
  · rw [if_pos hp, if_pos hp, hp, valP_nil, valP_nil]
  · rw [if_neg hp, if_neg hp, valP_ne a hp, valP_ne b hp]
    refine ⟨fun h => map_inj (cutN p) ?_ h, fun h => by rw [h]⟩
    intro x hx y hy e
    have hx := (List.mem_filter.1 hx).2
    have hy := (List.mem_filter.1 hy).2
    have key : ∀ n : Nd, withinL n.path p = true → n.path = place p (cutN p n).path := fun n hn => by
      obtain ⟨s, hs⟩ := (TP.within_iff (within_path hn) hp).1 hn
      unfold cutN
      simp only
      split
      · rename_i h0; rw [place_nil]; exact h0
      · rename_i h0
        have hs0 : s ≠ [] := fun e0 => h0 (by rw [hs, e0, place_nil])
        rw [place_ne p hs0] at hs
        rw [hs]
        have : (p ++ 47 :: s).drop (p.length + 1) = s := by
          rw [← List.drop_drop, List.drop_left]
          rfl
        rw [this, place_ne p hs0]
    have e1 := key x hx
    have e2 := key y hy
    rw [e] at e1
    have e3 : x.path = y.path := e1.trans e2.symm
    unfold cutN at e
    obtain ⟨x1, x2, x3, x4⟩ := x
    obtain ⟨y1, y2, y3, y4⟩ := y
    simp only [Nd.mk.injEq] at e e3 ⊢
    exact ⟨e3, e.2⟩
/-- Every path at which both differ: both unlike there. -/
theorem diff_unlike {a b : List Nd} (ha : Tree a) (hb : Tree b) : ∀ q ∈ diffM a b, pathL q = true ∧ unlike a b q := fun q hq => by
  rcases diffM_mem ha.sorted hb.sorted q hq with ⟨n, h1, h2, h3⟩ | ⟨n, h1, h2, h3⟩
  · exact ⟨by rw [← h2]; exact ha.path n h1, n, h2, .inl ⟨h1, h3⟩⟩
  · exact ⟨by rw [← h2]; exact hb.path n h1, n, h2, .inr ⟨h1, h3⟩⟩
end RC
end Go.Proofs.YtmpmmebmhffaeaaGreatDoor
