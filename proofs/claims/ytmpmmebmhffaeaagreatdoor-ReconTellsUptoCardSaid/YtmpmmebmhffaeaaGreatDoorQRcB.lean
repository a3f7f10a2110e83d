/- Texts of this seat, put one behind the other: RcVal RcBe RcKey RcOrd RcLen. -/
import Derived.Test.YtmpmmebmhffaeaaGreatDoorQRcA
import Derived.Test.YtmpmmebmhffaeaaGreatDoorQBase
import Derived.Test.YtmpmmebmhffaeaaGreatDoorQRcIt
import Derived.Lib.SlicesCompact
import Derived.Sort.KeysCollected
import Derived.Sort.OwnSorted
import Derived.Maps.RangeWalk
import Derived.Shelf.Slices.In.SortNone
set_option linter.all false
set_option maxRecDepth 100000
set_option maxHeartbeats 25600000
section
/- Layer 12 over lists: what a tree has at a path, with the paths from the root; what stands right in it (no program is read here). -/
namespace Go.Proofs.YtmpmmebmhffaeaaGreatDoor
open Go
namespace RC
open NP TP

def valP (t : List Nd) (p : List UInt8) : List Nd := if p = [] then root :: t else t.filter fun n => withinL n.path p
theorem valP_nil (t : List Nd) : valP t [] = root :: t := if_pos rfl
theorem valP_ne (t : List Nd) {p : List UInt8} (h : p ≠ []) : valP t p = t.filter fun n => withinL n.path p := if_neg h
theorem tw_app {k s : List UInt8} (hk : 47 ∉ k) : (k ++ 47 :: s).takeWhile (fun c => decide (c ≠ 47)) = k := by
  induction k with
  | nil => simp
  | cons x k ih =>
    have hx : x ≠ 47 := fun e => hk (by simp [e])
    rw [List.cons_append, List.takeWhile_cons, if_pos (by simpa using hx), ih (fun h => hk (List.mem_cons_of_mem _ h))]
theorem tw_self {k : List UInt8} (hk : 47 ∉ k) : k.takeWhile (fun c => decide (c ≠ 47)) = k := by
  induction k with
  | nil => rfl
  | cons x k ih =>
    have hx : x ≠ 47 := fun e => hk (by simp [e])
    rw [List.takeWhile_cons, if_pos (by simpa using hx), ih (fun h => hk (List.mem_cons_of_mem _ h))]
theorem tw_parts (q : List UInt8) : 47 ∉ q.takeWhile (fun c => decide (c ≠ 47)) ∧ (q = q.takeWhile (fun c => decide (c ≠ 47)) ∨ ∃ s, q = q.takeWhile (fun c => decide (c ≠ 47)) ++ 47 :: s) := by
  induction q with
  | nil => exact ⟨by simp, .inl rfl⟩
  | cons x q ih =>
    by_cases hx : x = 47
    · subst hx
      exact ⟨by simp, .inr ⟨q, by simp⟩⟩
    · rw [List.takeWhile_cons, if_pos (by simpa using hx)]
      refine ⟨fun h => ?_, ?_⟩
      · rcases List.mem_cons.1 h with h | h
        · exact hx h.symm
        · exact ih.1 h
      · rcases ih.2 with h | ⟨s, h⟩
        · left; rw [← h]
        · right; exact ⟨s, by rw [List.cons_append, ← h]⟩
theorem key_within {q k : List UInt8} (hq : pathL q = true) (hk0 : k ≠ []) (hk : 47 ∉ k) : (q.takeWhile (fun c => decide (c ≠ 47)) = k) ↔ withinL q k = true := by
  rw [within_iff hq hk0]
  constructor
  · intro h
    obtain ⟨_, h2⟩ := tw_parts q
    rw [h] at h2
    rcases h2 with h2 | ⟨s, h2⟩
    · exact ⟨[], by rw [place_nil, ← h2]⟩
    · refine ⟨s, ?_⟩
      rw [place_ne _ (path_tail_ne (by rw [h2] at hq; exact hq))]
      exact h2
  · rintro ⟨s, rfl⟩
    unfold place
    split
    · exact tw_self hk
    · exact tw_app hk
theorem first_ne {q : List UInt8} (hq : pathL q = true) : q.takeWhile (fun c => decide (c ≠ 47)) ≠ [] := fun h => by
  obtain ⟨_, h2⟩ := tw_parts q
  rw [h] at h2
  rcases h2 with h2 | ⟨s, h2⟩
  · exact path_ne hq h2
  · have := path_head hq
    rw [h2] at this
    simp at this
/-- What stands right below p at the name k. -/
theorem below_nil {k : List UInt8} : belowP [] k = k := by
  unfold belowP
  exact trim_pre [47] k
theorem below_ne {p k : List UInt8} (hp : pathL p = true) : belowP p k = p ++ 47 :: k := by
  unfold belowP
  refine trim_no ?_
  have := path_head hp
  cases p with
  | nil => exact absurd hp (by rw [path_nil]; simp)
  | cons x r => simpa using this
theorem head_p {t : List Nd} (ht : Tree t) {p : List UInt8} (hp : pathL p = true) {h : Nd} {r : List Nd} (e : valP t p = h :: r) : h.path = p ∧ h ∈ t ∧ ∀ n ∈ r, n ∈ t ∧ withinL n.path p = true ∧ n.path ≠ p := by
  rw [valP_ne t (path_ne hp)] at e
  have hm : ∀ n ∈ h :: r, n ∈ t ∧ withinL n.path p = true := fun n hn => by rw [← e] at hn; simpa using hn
  have hs : Sorted (h :: r) := by rw [← e]; exact sorted_filter ht.sorted _
  have hh := hm h (List.mem_cons_self ..)
  have hhp : h.path = p := by
    refine Classical.byContradiction fun hne => ?_
    obtain ⟨d, hd, hdp, _⟩ := tree_above ht (path_ne hp) _ h (Nat.le_refl _) hh.1 hh.2 hne
    have hd2 : d ∈ h :: r := by
      rw [← e]
      refine List.mem_filter.2 ⟨hd, ?_⟩
      rw [hdp]
      exact within_self hp
    rcases List.mem_cons.1 hd2 with e2 | e2
    · exact hne (by rw [← e2, hdp])
    · have h1 := (List.pairwise_cons.1 hs).1 d e2
      have h2 := ord_below (path_ne hp) hh.2
      unfold TP.lt at h1
      rw [hdp] at h1
      exact ord_irr p (ord_le h2 h1)
  refine ⟨hhp, hh.1, fun n hn => ⟨(hm n (List.mem_cons_of_mem _ hn)).1, (hm n (List.mem_cons_of_mem _ hn)).2, fun e3 => ?_⟩⟩
  have h1 := (List.pairwise_cons.1 hs).1 n hn
  unfold TP.lt at h1
  rw [hhp, e3] at h1
  exact ord_irr p h1
/-- A node below p: its name there. -/
theorem key_p {p : List UInt8} (hp : pathL p = true) {q : List UInt8} (hq : pathL q = true) (hw : withinL q p = true) (hne : q ≠ p) : ∃ s, q = p ++ 47 :: s ∧ pathL s = true ∧ keyL p.length q = s.takeWhile (fun c => decide (c ≠ 47)) := by
  obtain ⟨s, e⟩ := (within_iff hq (path_ne hp)).1 hw
  have hs : s ≠ [] := fun h => hne (by rw [e, h, place_nil])
  rw [place_ne p hs] at e
  have hsp := path_tail (by rw [e] at hq; exact hq)
  refine ⟨s, e, hsp, ?_⟩
  unfold keyL
  rw [e, List.drop_left, show Lib.trimPrefix (47 :: s) [47] = s from trim_pre [47] s]
theorem key_0 {q : List UInt8} (hq : pathL q = true) : keyL 0 q = q.takeWhile (fun c => decide (c ≠ 47)) := by
  unfold keyL
  rw [List.drop_zero, trim_no (path_head hq)]
theorem within_place {q p k : List UInt8} (hq : pathL q = true) (hp : p ≠ []) (s : List UInt8) (e : q = p ++ 47 :: s) (hs : pathL s = true) (hk0 : k ≠ []) : withinL q (p ++ 47 :: k) = true ↔ withinL s k = true := by
  rw [within_iff hq (by simp), within_iff hs hk0]
  constructor
  · rintro ⟨u, hu⟩
    refine ⟨u, ?_⟩
    rw [e] at hu
    unfold place at hu ⊢
    split at hu
    · rename_i h0
      rw [if_pos h0]
      have := List.append_cancel_left hu
      injection this
    · rename_i h0
      rw [if_neg h0]
      rw [List.append_assoc] at hu
      have := List.append_cancel_left hu
      injection this
  · rintro ⟨u, hu⟩
    refine ⟨u, ?_⟩
    rw [e, hu]
    unfold place
    split
    · rfl
    · simp
/-- What stands right at a name is what the tree has there. -/
theorem sub_val {t : List Nd} (ht : Tree t) {p k : List UInt8} (hp : p = [] ∨ pathL p = true) (hk0 : k ≠ []) (hk : 47 ∉ k) : subL (valP t p) k = valP t (belowP p k) := by
  rcases hp with rfl | hp
  · rw [below_nil, valP_nil, valP_ne t hk0]
    show t.filter _ = _
    refine List.filter_congr fun n hn => ?_
    have hq := ht.path n hn
    have h0 : keyL root.path.length n.path = n.path.takeWhile (fun c => decide (c ≠ 47)) := key_0 hq
    rw [h0]
    have := key_within hq hk0 hk
    by_cases h : withinL n.path k = true
    · rw [h, decide_eq_true (this.2 h)]
    · rw [Bool.not_eq_true] at h
      rw [h, decide_eq_false (fun e => by have := this.1 e; rw [h] at this; cases this)]
  · have hb : belowP p k = p ++ 47 :: k := below_ne hp
    have hsub : ∀ n ∈ t, withinL n.path (p ++ 47 :: k) = true → withinL n.path p = true ∧ n.path ≠ p := fun n hn hw => by
      have hq := ht.path n hn
      obtain ⟨u, hu⟩ := (within_iff hq (by simp)).1 hw
      have e : n.path = p ++ 47 :: place k u := by
        rw [hu]
        unfold place
        split <;> simp
      refine ⟨(within_iff hq (path_ne hp)).2 ⟨place k u, ?_⟩, fun e2 => ?_⟩
      · rw [place_ne p (by unfold place; split <;> simp [hk0])]
        exact e
      · rw [e2] at e
        have := congrArg List.length e
        simp at this
    rw [hb, valP_ne t (by simp : p ++ 47 :: k ≠ [])]
    cases e : valP t p with
    | nil =>
      symm
      show t.filter _ = []
      refine List.filter_eq_nil_iff.2 fun n hn hw => ?_
      rw [valP_ne t (path_ne hp)] at e
      have := List.filter_eq_nil_iff.1 e n hn
      exact this (hsub n hn hw).1
    | cons h r =>
      obtain ⟨h1, h2, h3⟩ := head_p ht hp e
      have e1 : (t.filter fun n => withinL n.path (p ++ 47 :: k)) = (valP t p).filter fun n => withinL n.path (p ++ 47 :: k) := by
        rw [valP_ne t (path_ne hp), List.filter_filter]
        refine List.filter_congr fun n hn => ?_
        by_cases hw : withinL n.path (p ++ 47 :: k) = true
        · rw [hw, (hsub n hn hw).1]; rfl
        · rw [Bool.not_eq_true] at hw
          rw [hw]; rfl
      rw [e1, e]
      have hno : withinL h.path (p ++ 47 :: k) = false := by
        cases hw : withinL h.path (p ++ 47 :: k) with
        | false => rfl
        | true => exact absurd h1 (hsub h h2 hw).2
      rw [List.filter_cons, hno]
      show r.filter _ = if false = true then _ else _
      rw [if_neg (by simp)]
      refine List.filter_congr fun n hn => ?_
      obtain ⟨g1, g2, g3⟩ := h3 n hn
      have hq := ht.path n g1
      obtain ⟨s, es, hs, hkey⟩ := key_p hp hq g2 g3
      rw [h1, hkey]
      have a := key_within hs hk0 hk
      have b := within_place hq (path_ne hp) s es hs hk0
      by_cases hw : withinL s k = true
      · rw [b.2 hw, decide_eq_true (a.2 hw)]
      · rw [decide_eq_false (fun e => hw (a.1 e))]
        cases h4 : withinL n.path (p ++ 47 :: k) with
        | false => rfl
        | true => exact absurd (b.1 h4) hw
/-- The names in a tree's directory are names, and what is below them is in the tree. -/
theorem key_name {t : List Nd} (ht : Tree t) {p k : List UInt8} (hp : p = [] ∨ pathL p = true) (h : k ∈ keysL (valP t p)) : k ≠ [] ∧ 47 ∉ k ∧ pathL (belowP p k) = true := by
  have up : ∀ (n : Nd) (w : List UInt8), n ∈ t → w ≠ [] → withinL n.path w = true → pathL w = true := fun n w hn hw0 hw => within_q (ht.path n hn) hw0 hw
  rcases hp with rfl | hp
  · rw [valP_nil] at h
    obtain ⟨n, hn, e⟩ := List.mem_map.1 h
    have hq := ht.path n hn
    have h0 : keyL root.path.length n.path = n.path.takeWhile (fun c => decide (c ≠ 47)) := key_0 hq
    rw [h0] at e
    have hk0 : k ≠ [] := by rw [← e]; exact first_ne hq
    have hk : 47 ∉ k := by rw [← e]; exact (tw_parts n.path).1
    rw [below_nil]
    exact ⟨hk0, hk, up n k hn hk0 ((key_within hq hk0 hk).1 e)⟩
  · cases e : valP t p with
    | nil => rw [e] at h; cases h
    | cons m r =>
      rw [e] at h
      obtain ⟨h1, h2, h3⟩ := head_p ht hp e
      obtain ⟨n, hn, e2⟩ := List.mem_map.1 h
      obtain ⟨g1, g2, g3⟩ := h3 n hn
      have hq := ht.path n g1
      obtain ⟨s, es, hs, hkey⟩ := key_p hp hq g2 g3
      rw [h1, hkey] at e2
      have hk0 : k ≠ [] := by rw [← e2]; exact first_ne hs
      have hk : 47 ∉ k := by rw [← e2]; exact (tw_parts s).1
      rw [below_ne hp]
      exact ⟨hk0, hk, up n _ g1 (by simp) ((within_place hq (path_ne hp) s es hs hk0).2 ((key_within hs hk0 hk).1 e2))⟩
theorem val_pre {t : List Nd} (ht : Tree t) {p : List UInt8} (hp : p = [] ∨ pathL p = true) : ∀ x ∈ valP t p, (match valP t p with | [] => [] | h :: _ => h.path).length ≤ x.path.length := by
  intro x hx
  rcases hp with rfl | hp
  · rw [valP_nil]
    exact Nat.zero_le _
  · cases e : valP t p with
    | nil => exact Nat.zero_le _
    | cons h r =>
      obtain ⟨h1, _, _⟩ := head_p ht hp e
      show h.path.length ≤ _
      rw [h1]
      rw [valP_ne t (path_ne hp)] at hx
      obtain ⟨hx1, hx2⟩ := List.mem_filter.1 hx
      obtain ⟨s, es⟩ := (within_iff (ht.path x hx1) (path_ne hp)).1 hx2
      rw [es]
      unfold place
      split <;> simp
theorem val_len {t : List Nd} (ht : Tree t) (p : List UInt8) : (valP t p).length ≤ 1001 := by
  have := ht.len
  unfold valP
  split
  · simp; omega
  · have h2 := List.length_filter_le (fun n : Nd => withinL n.path p) t
    omega
theorem val_mem {t : List Nd} {p : List UInt8} {x : Nd} (h : x ∈ valP t p) : x = root ∨ x ∈ t := by
  unfold valP at h
  split at h
  · exact List.mem_cons.1 h
  · exact .inr (List.mem_filter.1 h).1
end RC
end Go.Proofs.YtmpmmebmhffaeaaGreatDoor
end
section
/- Layer 12: the contract of below. -/
namespace Go.Proofs.YtmpmmebmhffaeaaGreatDoor
open Go.RowKit Go.Lib Go.Maps Go.BigFrame
namespace RC
open OM TP TM TR TG

theorem Grp.found {W : World} {base b n : Nat} {D : DataW Value} {G : List UInt8 → List Nd} (h : Grp W base b n D G) {k : List UInt8} {v : Value} (hv : D.atKey (.string k) (.held nilS) = .held v) : ∃ ao c, v = .slice ao (G k).length c ∧ LayN W ao (G k) ∧ (ao = none → c = 0) ∧ (G k).length ≤ c := by
  have ho := h.own k v hv
  obtain ⟨ao, c, rfl, hl⟩ := lay_own ho
  refine ⟨ao, c, rfl, hl, fun e => ?_, ?_⟩
  · subst e
    rcases ho.2 with ⟨e1, _⟩ | ⟨g, cap, cur, e1, _⟩
    · injection e1
    · cases e1
  · rcases ho.2 with ⟨e1, e2⟩ | ⟨g, cap, cur, e1, _, _, h3, _⟩
    · omega
    · injection e1 with _ _ e3
      omega
set_option maxRecDepth 100000 in
set_option maxHeartbeats 6400000 in
theorem below_any (p k : List UInt8) (o a b : List Nd) (b1 b2 b3 : Nat) (vo va vb : Value) (w : World) (he : NF.Env w) (h : TrAt w p o a b b1 b2 b3 vo va vb) (hp : p.length ≤ 1048576) (hk : k.length ≤ 1048576) (io : InV (subL o k)) (ia : InV (subL a k)) (ib : InV (subL b k)) :
    Calls Tryz.prog 27 #[trV p b1 b2 b3 vo va vb, txt k] w fun r w' => ∃ c1 c2 c3 uo ua ub, r = .returned (trV (belowP p k) c1 c2 c3 uo ua ub) ∧ TrAt w' (belowP p k) (subL o k) (subL a k) (subL b k) c1 c2 c3 uo ua ub ∧ Below w.heap.size w w' := by
  obtain ⟨⟨n1, D1, -, g1⟩, ⟨n2, D2, -, g2⟩, ⟨n3, D3, -, g3⟩, ⟨x1, e1, rfl, l1, -⟩, ⟨x2, e2, rfl, l2, -⟩, ⟨x3, e3, rfl, l3, -⟩⟩ := h
  unfold trV
  obtain ⟨S, hS, hSd⟩ := txt_of p
  obtain ⟨K, hK, hKd⟩ := txt_of k
  obtain ⟨T, hT, hTd⟩ := txt_of (belowP p k)
  rw [hS, hK]
  have hks := keyS K (by rw [Lib.size_eq, hKd]; unfold maxLen; omega)
  rw [hKd] at hks
  have HKS := Lib.hid hks
  have HE := Lib.hid he
  have G1 := Lib.hid g1
  have G2 := Lib.hid g2
  have G3 := Lib.hid g3
  have IO := Lib.hid io
  have IA := Lib.hid ia
  have IB := Lib.hid ib
  have hSs : S.size ≤ 1048576 := by rw [Lib.size_eq, hSd]; omega
  have hKs : K.size ≤ 1048576 := by rw [Lib.size_eq, hKd]; omega
  have CT := Lib.hid (trim_txt (S ++ ⟨#[47]⟩ ++ K) ⟨#[47]⟩ T (p ++ 47 :: k) [47] (by simp [hSd, hKd]) rfl hTd)
  obtain ⟨no, hno⟩ : ∃ n, o.length = n := ⟨_, rfl⟩
  obtain ⟨na, hna⟩ : ∃ n, a.length = n := ⟨_, rfl⟩
  obtain ⟨nb, hnb⟩ : ∃ n, b.length = n := ⟨_, rfl⟩
  rw [hno, hna, hnb]
  clear g1 g2 g3 l1 l2 l3 io ia ib he hS hSd hK hKd hno hna hnb hks
  go_enter Tryz.func27, Tryz.ntmps27
  repeat (first | go_skip | go_guarded | go_step | go_upon)
  obtain ⟨W2, hW2⟩ : ∃ W2, ((w.alloc (.cells #[.map (some b1), .map (some b2), .map (some b3), .string S, .slice x1 no e1, .slice x2 na e2, .slice x3 nb e3] 49)).alloc (.cells #[.map none, .map none, .map none, .string ⟨#[]⟩, .slice none 0 0, .slice none 0 0, .slice none 0 0] 49)) = W2 := ⟨_, rfl⟩
  have r1 : W2.heap[w.heap.size]? = some (.cells #[.map (some b1), .map (some b2), .map (some b3), .string S, .slice x1 no e1, .slice x2 na e2, .slice x3 nb e3] 49 (0, 0)) := by
    rw [← hW2]
    exact (heap_alloc_old _ _ (by simp)).trans (heap_alloc_new _ _)
  have r2 : W2.heap[w.heap.size + 1]? = some (.cells #[.map none, .map none, .map none, .string ⟨#[]⟩, .slice none 0 0, .slice none 0 0, .slice none 0 0] 49 (0, 0)) := by
    rw [← hW2]
    exact heap_alloc2_new _ _ _
  have B2 : Hid (Below w.heap.size w W2) := Lib.hid (by rw [← hW2]; exact ((Below.refl _ _).alloc (Nat.le_refl _) _).alloc (by simp) _)
  have s2 : W2.heap.size = w.heap.size + 2 := by rw [← hW2]; simp
  have M1 := Lib.hid (G1.out.below B2.out)
  have M2 := Lib.hid (G2.out.below B2.out)
  have M3 := Lib.hid (G3.out.below B2.out)
  rw [hW2]
  clear hW2
  have R2 := Lib.hid r2
  obtain ⟨c0, c1, c2, c3, c4, c5, c6, cf⟩ := row7 r1
  clear r1 r2
  refine (CT.out _).mono ?_
  rintro r w2 ⟨rfl, rfl⟩
  simp only []
  repeat (first
    | (at_lookup; refine wpList_lookup_held _ rfl _ _ _ rfl _ _ lawS Tryz.underlying45 nilS (nodesZero _) b1 n1 D1 rfl M1.out.map (.string K) (.string k) rfl HKS.out ?_; intro v1 hv1; have V1 := Lib.hid hv1; clear hv1)
    | (at_lookup; refine wpList_lookup_held _ rfl _ _ _ rfl _ _ lawS Tryz.underlying45 nilS (nodesZero _) b2 n2 D2 rfl M2.out.map (.string K) (.string k) rfl HKS.out ?_; intro v2 hv2; have V2 := Lib.hid hv2; clear hv2)
    | (at_lookup; refine wpList_lookup_held _ rfl _ _ _ rfl _ _ lawS Tryz.underlying45 nilS (nodesZero _) b3 n3 D3 rfl M3.out.map (.string K) (.string k) rfl HKS.out ?_; intro v3 hv3; have V3 := Lib.hid hv3; clear hv3)
    | go_skip | go_guarded | go_step | go_upon)
  obtain ⟨y1, f1, rfl, m1, z1⟩ := G1.out.found V1.out
  obtain ⟨y2, f2, rfl, m2, z2⟩ := G2.out.found V2.out
  obtain ⟨y3, f3, rfl, m3, z3⟩ := G3.out.found V3.out
  have CS := standing_any (belowP p k) y1 y2 y3 f1 f2 f3 (subL o k) (subL a k) (subL b k) w2 (HE.out.below B2.out) (m1.below B2.out) (m2.below B2.out) (m3.below B2.out) IO.out IA.out IB.out z1 z2 z3
  rw [hT] at CS
  refine CS.mono ?_
  rintro r w3 ⟨q1, q2, q3, rfl, ht, hb, hq1, hq2, hq3⟩
  simp only []
  have B3 := Lib.hid (Below.trans B2.out (hb.mono B2.out.size))
  have r3 := (hb.block (w.heap.size + 1) (by omega)).trans R2.out
  have R3 := Lib.hid r3
  obtain ⟨d0, d1, d2, d3, d4, d5, d6, df⟩ := row7 r3
  obtain ⟨⟨k1, E1, j1, h1⟩, ⟨k2, E2, j2, h2⟩, ⟨k3, E3, j3, h3⟩, -, -, -⟩ := ht
  have H1 := Lib.hid h1
  have H2 := Lib.hid h2
  have H3 := Lib.hid h3
  have L1 := Lib.hid m1
  have L2 := Lib.hid m2
  have L3 := Lib.hid m3
  clear h1 h2 h3 m1 m2 m3 CS r3 hb
  unfold trV
  rw [hT]
  obtain ⟨so, hso⟩ : ∃ n, (subL o k).length = n := ⟨_, rfl⟩
  obtain ⟨sa, hsa⟩ : ∃ n, (subL a k).length = n := ⟨_, rfl⟩
  obtain ⟨sb, hsb⟩ : ∃ n, (subL b k).length = n := ⟨_, rfl⟩
  rw [hso, hsa, hsb]
  repeat (first | go_skip | go_guarded | go_step | go_upon)
  have gz := grown7 w3 (w.heap.size + 1) (.map (some q1)) (.map (some q2)) (.map (some q3)) (.string T) (.slice y1 so f1) (.slice y2 sa f2) (.slice y3 sb f3)
  have rz := set7 w3 (w.heap.size + 1) (.map (some q1)) (.map (some q2)) (.map (some q3)) (.string T) (.slice y1 so f1) (.slice y2 sa f2) (.slice y3 sb f3) R3.out
  have bz := Below.trans B3.out (below_of_grown gz (by omega) B3.out.size)
  refine bodyPost_ret (v := trV (belowP p k) q1 q2 q3 (.slice y1 so f1) (.slice y2 sa f2) (.slice y3 sb f3)) ?_ rfl ⟨q1, q2, q3, _, _, _, rfl, ⟨⟨_, _, j1, H1.out.beside gz (by omega)⟩, ⟨_, _, j2, H2.out.beside gz (by omega)⟩, ⟨_, _, j3, H3.out.beside gz (by omega)⟩, ⟨y1, f1, by rw [hso], L1.out.below bz, z1⟩, ⟨y2, f2, by rw [hsa], L2.out.below bz, z2⟩, ⟨y3, f3, by rw [hsb], L3.out.below bz, z3⟩⟩, bz⟩
  unfold trV
  rw [hT]
  exact results_cell_row rfl _ _ (w.heap.size + 1) 49 _ (0, 0) _ rfl rz Tryz.underlying49 rfl (by kernel_rfl)
end RC
end Go.Proofs.YtmpmmebmhffaeaaGreatDoor
end
section
/- Layer 12 over lists: what is sorted and made compact is the names, each once, in their order (no program is read here). -/
namespace Go.Proofs.YtmpmmebmhffaeaaGreatDoor
open Go Go.Lib
namespace RC
open TP

theorem lexB_lt : ∀ {a b : List UInt8}, lexB a b = true ↔ a < b
  | a, [] => by
    constructor
    · intro h; cases a <;> simp [lexB] at h
    · intro h; exact absurd h (List.not_lt_nil a)
  | [], y :: ys => by simp [lexB]
  | x :: xs, y :: ys => by
    have e : lexB (x :: xs) (y :: ys) = (decide (x < y) || (decide (x = y) && lexB xs ys)) := by conv => lhs; unfold lexB
    rw [List.cons_lt_cons_iff, ← lexB_lt (a := xs), e]
    simp only [Bool.or_eq_true, Bool.and_eq_true, decide_eq_true_eq]
theorem leB_iff (a b : List UInt8) : leB a b = true ↔ a = b ∨ lexB a b = true := by
  have h : leB a b = true ↔ lexB b a = false := by
    unfold leB
    rw [decide_eq_true_eq, ← Bool.not_eq_true, lexB_lt]
    exact List.not_lt.symm
  rw [h]
  constructor
  · intro h1
    by_cases e : a = b
    · exact .inl e
    · exact .inr (lex_total h1 (fun e2 => e e2.symm))
  · rintro (rfl | h1)
    · exact lex_irr a
    · cases h2 : lexB b a with
      | false => rfl
      | true =>
        have := lex_trans h1 h2
        rw [lex_irr] at this
        cases this
theorem compact_facts (l : List (List UInt8)) (hs : l.Pairwise (fun a b => leB a b = true)) : ∀ m, m ≤ l.length → SortedK (compactUpTo l.toArray m) ∧ (∀ z, z ∈ compactUpTo l.toArray m ↔ ∃ j, j < m ∧ l[j]? = some z)
  | 0, _ => ⟨by unfold compactUpTo SortedK; simp, fun z => by unfold compactUpTo; simp⟩
  | m + 1, hm => by
    obtain ⟨ih1, ih2⟩ := compact_facts l hs m (by omega)
    have hml : m < l.length := by omega
    have em : l.toArray[m]! = l[m] := by simp [getElem!_pos, hml]
    rw [compactUpTo_succ]
    by_cases hk : keeps l.toArray m = true
    · rw [hk, if_pos rfl, em]
      refine ⟨List.pairwise_append.2 ⟨ih1, List.pairwise_singleton _ _, fun z hz y hy => ?_⟩, fun z => ?_⟩
      · rw [List.mem_singleton.1 hy]
        obtain ⟨j, hj, ej⟩ := (ih2 z).1 hz
        have hpos : 0 < m := by omega
        have em1 : l.toArray[m - 1]! = l[m - 1] := by simp [getElem!_pos, show m - 1 < l.length by omega]
        have hne : l[m] ≠ l[m - 1] := by
          unfold keeps at hk
          rw [decide_eq_true_eq, em, em1] at hk
          exact hk.resolve_left (by omega)
        have hp := List.pairwise_iff_getElem.1 hs
        have h1 : lexB l[m - 1] l[m] = true := ((leB_iff _ _).1 (hp (m - 1) m (by omega) hml (by omega))).resolve_left (fun e => hne e.symm)
        obtain ⟨hjl, ej⟩ := List.getElem?_eq_some_iff.1 ej
        by_cases e : j = m - 1
        · subst e
          rw [← ej]
          exact h1
        · rcases (leB_iff _ _).1 (hp j (m - 1) hjl (by omega) (by omega)) with h2 | h2
          · rw [← ej, h2]; exact h1
          · rw [← ej]; exact lex_trans h2 h1
      · rw [List.mem_append, ih2 z, List.mem_singleton]
        constructor
        · rintro (⟨j, hj, e⟩ | rfl)
          · exact ⟨j, by omega, e⟩
          · exact ⟨m, by omega, List.getElem?_eq_getElem hml⟩
        · rintro ⟨j, hj, e⟩
          by_cases h2 : j = m
          · subst h2
            rw [List.getElem?_eq_getElem hml] at e
            injection e with e
            exact .inr e.symm
          · exact .inl ⟨j, by omega, e⟩
    · rw [Bool.not_eq_true] at hk
      rw [hk, if_neg (by simp), List.append_nil]
      refine ⟨ih1, fun z => ?_⟩
      rw [ih2 z]
      constructor
      · rintro ⟨j, hj, e⟩; exact ⟨j, by omega, e⟩
      · rintro ⟨j, hj, e⟩
        by_cases h2 : j = m
        · subst h2
          unfold keeps at hk
          rw [decide_eq_false_iff_not] at hk
          have hpos : 0 < j := Nat.pos_of_ne_zero (fun e0 => hk (.inl e0))
          have em1 : l.toArray[j - 1]! = l[j - 1] := by simp [getElem!_pos, show j - 1 < l.length by omega]
          have he : l[j] = l[j - 1] := Classical.byContradiction fun hne => hk (.inr (by rw [em, em1]; exact hne))
          rw [List.getElem?_eq_getElem hml, he] at e
          exact ⟨j - 1, by omega, by rw [List.getElem?_eq_getElem (by omega)]; exact e⟩
        · exact ⟨j, by omega, e⟩
/-- Sorted and made compact: the names. -/
theorem ord_sort (ss ns : List (List UInt8)) (h : ∀ x, x ∈ ss ↔ x ∈ ns) : Lib.compact (ss.mergeSort fun x y => decide (x ≤ y)) = ordK ns := by
  have tr : ∀ a b c : List UInt8, leB a b = true → leB b c = true → leB a c = true := fun a b c h1 h2 => by simp only [leB, decide_eq_true_eq] at *; exact List.le_trans h1 h2
  have to : ∀ a b : List UInt8, (leB a b || leB b a) = true := fun a b => by simp only [leB, Bool.or_eq_true, decide_eq_true_eq]; exact List.le_total a b
  obtain ⟨f1, f2⟩ := compact_facts (ss.mergeSort leB) (List.pairwise_mergeSort tr to ss) _ (Nat.le_refl _)
  refine sortedK_ext f1 (sorted_ordK ns) fun z => ?_
  rw [mem_ordK, ← h z]
  refine (f2 z).trans ?_
  rw [← (List.mergeSort_perm ss leB).mem_iff, List.mem_iff_getElem?]
  constructor
  · rintro ⟨j, _, e⟩; exact ⟨j, e⟩
  · rintro ⟨j, e⟩; exact ⟨j, (List.getElem?_eq_some_iff.1 e).1, e⟩
theorem mem_keys (v : List Nd) (k : List UInt8) : k ∈ keysL v ↔ subL v k ≠ [] := by
  cases v with
  | nil => simp [keysL, subL]
  | cons x r =>
    show k ∈ r.map _ ↔ r.filter _ ≠ []
    rw [List.mem_map, ne_eq, List.filter_eq_nil_iff]
    constructor
    · rintro ⟨n, hn, e⟩ h
      exact h n hn (decide_eq_true e)
    · intro h
      refine Classical.byContradiction fun hno => h fun n hn e => hno ⟨n, hn, of_decide_eq_true e⟩
end RC
end Go.Proofs.YtmpmmebmhffaeaaGreatDoor
end
section
/- Layer 12: the contract of ordered. -/
namespace Go.Proofs.YtmpmmebmhffaeaaGreatDoor
open Go.RowKit Go.Lib Go.Maps Go.BigFrame Go.Sort
namespace RC
open OM TP TM TR TG

theorem infoStr : (Tryz.prog.info? 9).map (fun i => (i.zero, i.size, i.bytes)) = some (some (.string ⟨#[]⟩), 1, 16) := by kernel_rfl
/-- A map of what stands right in v. -/
def Mp (W : World) (b : Nat) (v : List Nd) : Prop := ∃ n D, n ≤ 1001 ∧ Grp W (b + 1) b n D (subL v)
theorem Mp.below {W W' : World} {b : Nat} {v : List Nd} (h : Mp W b v) (hb : Below W.heap.size W W') : Mp W' b v := by
  obtain ⟨n, D, h1, h2⟩ := h
  exact ⟨n, D, h1, h2.below hb⟩
theorem Mp.lt {W : World} {b : Nat} {v : List Nd} (h : Mp W b v) : b < W.heap.size := by
  obtain ⟨n, D, h1, h2⟩ := h
  exact h2.map.lt
/-- Of the three. -/
def pick3 {α : Type} (x y z : α) : Nat → α
  | 0 => x
  | 1 => y
  | _ => z
def seen3 (o a b : List Nd) (k : Nat) (x : List UInt8) : Prop := ∃ j, j < k ∧ subL (pick3 o a b j) x ≠ []
theorem compact_row {w : World} {base g cap q : Nat} {e : TypeId} {cur : Array Value} {zs : List (List UInt8)} (hbase : base ≤ g) (hb : w.heap[g]? = some (.cells cur e (0, 0))) (h1 : zs.length ≤ cap) (h2 : cap ≤ maxLen) (h3 : cur.size = cap * 1) (hc : (Lib.compact zs).length ≤ zs.length) :
    (putRow encStr (Sort.ahead w q) g 0 (Lib.compact zs ++ List.replicate (zs.length - (Lib.compact zs).length) []).toArray).ownsRow base e 1 (.slice (some ⟨g, 0, none⟩) (Lib.compact zs).length cap) (Lib.compact zs).length ((Lib.compact zs).map encStr) := by
  obtain ⟨ts, hts⟩ : ∃ ts, Lib.compact zs ++ List.replicate (zs.length - (Lib.compact zs).length) [] = ts := ⟨_, rfl⟩
  have hl : ts.length = zs.length := by rw [← hts]; simp; omega
  have hh := heap_sorted (n := q) (os := #[]) ts.toArray hb
  rw [grow_empty] at hh
  rw [hts]
  refine ⟨by simp, .inr ⟨g, cap, _, rfl, hbase, hh, by omega, h2, by simp [putCells, h3], ?_⟩⟩
  have ht := take_putCells cur ts (by omega)
  have h4 : ((putCells encStr 0 ts.toArray cur).toList.take ts.length).take (Lib.compact zs).length = (ts.map encStr).take (Lib.compact zs).length := by rw [ht]
  rw [List.take_take, Nat.min_eq_left (by omega)] at h4
  rw [Nat.mul_one, h4, ← hts, List.map_append, List.take_left' (by simp)]
set_option maxRecDepth 100000 in
set_option maxHeartbeats 6400000 in
theorem ordered_any (b1 b2 b3 : Nat) (o a b : List Nd) (w : World) (h1 : Mp w b1 o) (h2 : Mp w b2 a) (h3 : Mp w b3 b) :
    Calls Tryz.prog 26 #[.agg #[.map (some b1), .map (some b2), .map (some b3)]] w fun r w' => ∃ u, r = .returned u ∧ w'.ownsRow w.heap.size 9 1 u (namesK o a b).length ((namesK o a b).map encStr) ∧ Below w.heap.size w w' := by
  obtain ⟨i0, hi, hz0, hz1, hz2⟩ : ∃ i0, Tryz.prog.info? 9 = some i0 ∧ i0.zero = some (.string ⟨#[]⟩) ∧ i0.size = 1 ∧ i0.bytes = 16 := by
    have := infoStr
    cases e : Tryz.prog.info? 9 with
    | none => rw [e] at this; cases this
    | some i0 =>
      rw [e] at this
      simp only [Option.map_some, Option.some.injEq, Prod.mk.injEq] at this
      exact ⟨i0, rfl, this.1, this.2.1, this.2.2⟩
  have H1 := Lib.hid h1
  have H2 := Lib.hid h2
  have H3 := Lib.hid h3
  clear h1 h2 h3
  go_enter Tryz.func26, Tryz.ntmps26
  repeat (first | go_skip | go_guarded | go_step | go_upon)
  obtain ⟨W0, hW0⟩ : ∃ W0, ((w.alloc (.cells #[.map (some b1), .map (some b2), .map (some b3)] 47)).alloc (.cells #[.map (some b1), .map (some b2), .map (some b3)] 45)) = W0 := ⟨_, rfl⟩
  have r0 : W0.heap[w.heap.size + 1]? = some (.cells #[.map (some b1), .map (some b2), .map (some b3)] 45 (0, 0)) := by rw [← hW0]; exact heap_alloc2_new _ _ _
  have B0 : Hid (Below w.heap.size w W0) := Lib.hid (by rw [← hW0]; exact ((Below.refl _ _).alloc (Nat.le_refl _) _).alloc (by simp) _)
  have s0 : W0.heap.size = w.heap.size + 2 := by rw [← hW0]; simp
  rw [hW0]
  clear hW0
  have PM : Hid (∀ k, Mp W0 (pick3 b1 b2 b3 k) (pick3 o a b k)) := Lib.hid (fun k => by
    match k with
    | 0 => exact H1.out.below B0.out
    | 1 => exact H2.out.below B0.out
    | k + 2 => exact H3.out.below B0.out)
  have PC : Hid (∀ k, k < 3 → W0.cell? ⟨w.heap.size + 1, k, none⟩ = some (.map (some (pick3 b1 b2 b3 k)))) := Lib.hid (fun k hk => by
    rw [cell_of_row W0 _ _ _ _ _ r0]
    match k with
    | 0 => rfl
    | 1 => rfl
    | 2 => rfl
    | k + 3 => omega)
  clear r0
  go_loopw [3, 15] (fun s3 s15 wr => ∃ (k : Nat) (ss : List (List UInt8)), s15 = .int .i64 k ∧ k ≤ 3 ∧ wr.ownsRow W0.heap.size 9 1 s3 ss.length (ss.map encStr) ∧ ss.length ≤ k * 1001 ∧ (∀ x, x ∈ ss ↔ seen3 o a b k x) ∧ Below W0.heap.size W0 wr) (fun _ s15 _ => 3 - (Go.RowKit.intOf s15).toNat)
  case atStart => exact ⟨0, [], rfl, by omega, World.ownsRow_nil _ _ _ _, by simp, fun x => by simp [seen3], Below.refl _ _⟩
  case round =>
    obtain ⟨k, ss, rfl, hk, ho, hl, hm, hb⟩ := hrel
    have HO := Lib.hid ho
    have HM := Lib.hid hm
    have HB := Lib.hid hb
    have hbs := hb.size
    clear ho hm hb
    by_cases hlt : k < 3
    · have hkz : (k : Int) < 3 := by omega
      have ck := (HB.out.cell (p := ⟨w.heap.size + 1, k, none⟩) (show w.heap.size + 1 < W0.heap.size by omega)).trans (PC.out k hlt)
      obtain ⟨n, D, hn, hG⟩ := (PM.out k).below HB.out
      have hblt : pick3 b1 b2 b3 k < W0.heap.size := (PM.out k).lt
      obtain ⟨bk, hbk⟩ : ∃ bk, pick3 b1 b2 b3 k = bk := ⟨_, rfl⟩
      rw [hbk] at ck hG hblt
      have HG := Lib.hid hG
      clear hG hbk
      repeat (first
        | (at_range; refine wpList_range_own _ rfl _ 45 rfl _ _ lawS Tryz.underlying45 _ bk n D rfl HG.out.map ?_; intro w0 hrg0 hg0 hs0; have RG0 := Lib.hid hrg0; have GG0 := Lib.hid hg0; clear hrg0 hg0)
        | go_skip | go_guarded | go_step | go_upon)
      go_frame
      have hsz0 : w0.heap.size = wr.heap.size + 1 := hs0
      clear hs0
      have hwr : wr.heap.size ≤ w0.heap.size := by omega
      obtain ⟨ri, hri⟩ : ∃ ri, wr.heap.size = ri := ⟨_, rfl⟩
      rw [hri] at RG0 hsz0
      rw [hri]
      have HO0 := Lib.hid (owns_below HO.out ⟨GG0.out.os, GG0.out.tape, GG0.out.output, GG0.out.size, fun k hk => GG0.out.block k hk (by simp)⟩)
      have B00 : Hid (Below W0.heap.size W0 w0) := Lib.hid (HB.out.grown GG0.out hbs (fun j hj => by cases hj))
      go_loopw [3] (fun s3 wi => ∃ (left : Lit → Bool) (cnt : Nat) (cs : List (List UInt8)), wi.ranges Tryz.prog 9 Rh bk ri n D left cnt ∧ cs.length + cnt ≤ Maps.size D ∧ wi.ownsRow W0.heap.size 9 1 s3 (ss ++ cs).length ((ss ++ cs).map encStr) ∧ Collected D left cs ∧ Below W0.heap.size W0 wi) (fun _ wi => wi.rangeLeft bk ri)
      case atStart => exact ⟨_, _, [], RG0.out, by simp, by rw [List.append_nil]; exact HO0.out, Collected.start D, B00.out⟩
      case round =>
        obtain ⟨left, cnt, cs, hrg, hcs, hrow, hC, hbi⟩ := hrel
        have hMs := HG.out.map.size_le
        have hbis := hbi.size
        repeat (first
          | (at_next; refine wpList_next_ranges _ rfl _ rfl 9 lawS Rh encStr (fun v : Value => v) (fun key kl hk => by obtain ⟨x, hx, _⟩ := Maps.keyOf_str Tryz.underlying9 hk; exact ⟨x, hx⟩) (fun v y hv => ⟨v, rfl⟩) bk ri n _ _ _ rfl hrg ?_ ?_)
          | go_skip | go_guarded | go_step | go_upon)
        · intro hc0 hl0
          have HR := Lib.hid hrow
          have HC := Lib.hid hC
          have HBI := Lib.hid hbi
          clear hrow hC hbi hrg
          repeat (first | go_skip | go_guarded | go_step | go_upon)
          refine ⟨⟨k + 1, ss ++ cs, by go_num, by omega, HR.out, ?_, fun z => ?_, HBI.out⟩, by simp [Go.RowKit.intOf]; omega⟩
          · rw [List.length_append]
            omega
          · rw [List.mem_append, HM.out z, HC.out.2 z, hl0, HG.out.key z]
            constructor
            · rintro (⟨j, hj, e⟩ | ⟨e, _⟩)
              · exact ⟨j, by omega, e⟩
              · exact ⟨k, by omega, of_decide_eq_true e⟩
            · rintro ⟨j, hj, e⟩
              by_cases h2 : j = k
              · subst h2
                exact .inr ⟨decide_eq_true e, rfl⟩
              · exact .inl ⟨j, by omega, e⟩
        · intro x c kl y w2 cnt2 hkey hlk hv hat hrg2 hlt2 hg2 hs2 hen
          obtain ⟨x', ex, rfl, _⟩ := Maps.keyOf_str Tryz.underlying9 hkey
          obtain rfl : x = x' := encStr_inj ex
          have hrow2 := Lib.hid (hrow.kept hg2 (Or.inr (row_ne_iter hrow hrg).symm))
          have HC := Lib.hid (hC.step hlk hat)
          have B2 := Lib.hid (hbi.grown hg2 hbis (fun j hj => by injection hj with hj; omega))
          have RG2 := Lib.hid hrg2
          have hw2 : wr.heap.size ≤ w2.heap.size := hg2.size
          have hle := hrg.left_eq
          clear hs2 hg2 hrow hC hbi hrg hrg2 hv hat hlk hkey
          repeat (first
            | (at_builtin; refine wpList_append_own _ rfl _ _ 59 rfl W0.heap.size 9 i0 (.string ⟨#[]⟩) 1 16 Tryz.underlying59 hi hz0 hz1 hz2 rfl (by decide) _ _ _ rfl (hrow2.out.alloc _) ⟨w2.heap.size, 0, none⟩ 1 1 [encStr x] rfl rfl (one_new _ _ _) (by simp [Value.oneCell', encStr]) (by simp only [List.length_append]; unfold maxLen; omega) (by simp only [List.length_append]; omega) (by simp; omega) ?_; intro v' w3 hown' hg3 _; have RO := Lib.hid hown'; have RG := Lib.hid hg3; clear hown' hg3)
            | go_skip | go_guarded | go_step | go_upon)
          have rg3 := (RG2.out.alloc (.cells #[encStr x] 9)).kept RG.out (row_ne_low (hrow2.out.alloc (.cells #[encStr x] 9)) hblt) (row_ne_iter (hrow2.out.alloc (.cells #[encStr x] 9)) (RG2.out.alloc (.cells #[encStr x] 9)))
          have b3 := (B2.out.alloc (show W0.heap.size ≤ w2.heap.size by omega) (.cells #[encStr x] 9)).grown RG.out (by simp; omega) (fun j hj => (hrow2.out.lt j hj).1)
          refine ⟨⟨_, cnt2, cs ++ [x], rg3, by simp; omega, ?_, HC.out, b3⟩, by rw [rg3.left_eq, hle]; exact hlt2⟩
          have h5 := RO.out
          rw [show (ss ++ (cs ++ [x])).length = (ss ++ cs).length + 1 by simp [Nat.add_assoc], show (ss ++ (cs ++ [x])).map encStr = (ss ++ cs).map encStr ++ [encStr x] by simp]
          exact h5
    · have hkz : ¬ (k : Int) < 3 := by omega
      have hk3 : k = 3 := by omega
      have HEnd : Hid (Lib.compact (ss.mergeSort fun x y => decide (x ≤ y)) = namesK o a b) := Lib.hid (ord_sort ss _ (fun x => by
        rw [HM.out x, hk3]
        simp only [List.mem_append, mem_keys]
        constructor
        · rintro ⟨j, hj, e⟩
          match j, hj with
          | 0, _ => exact .inl (.inl e)
          | 1, _ => exact .inl (.inr e)
          | 2, _ => exact .inr e
        · rintro ((e | e) | e)
          · exact ⟨0, by omega, e⟩
          · exact ⟨1, by omega, e⟩
          · exact ⟨2, by omega, e⟩))
      have BZ : Hid (Below w.heap.size w wr) := Lib.hid (Below.trans B0.out (HB.out.mono B0.out.size))
      rcases HO.out.2 with ⟨hnil, hz⟩ | ⟨g, cap, cur, hv, hbase, hbk, h1, h2, h3, h4⟩
      · subst hnil
        have hs : ss = [] := List.eq_nil_of_length_eq_zero hz
        subst hs
        have CS := Lib.hid (Tryz.slices_Sort_string_none none 0 wr)
        have CC := Lib.hid (Tryz.slices_Compact_string_empty none 0 wr)
        repeat (first
          | (go_at_call 43; refine CS.out.mono ?_; rintro r w1 ⟨rfl, rfl⟩; simp only [])
          | (go_at_call 44; refine CC.out.mono ?_; rintro r w1 ⟨rfl, rfl⟩; simp only [])
          | go_skip | go_guarded | go_step | go_upon)
        go_ret
        have he := HEnd.out
        have hc0 : Lib.compact (([] : List (List UInt8)).mergeSort fun x y => decide (x ≤ y)) = [] := by simp [Lib.compact, compactUpTo]
        rw [hc0] at he
        exact ⟨_, rfl, by rw [← he]; exact World.ownsRow_nil _ _ _ _, BZ.out⟩
      · subst hv
        have hss : ss.length ≤ 3003 := by omega
        obtain ⟨zs, hzs⟩ : ∃ zs, (ss.mergeSort fun x y => decide (x ≤ y)) = zs := ⟨_, rfl⟩
        have hzl : zs.length = ss.length := by rw [← hzs]; simp
        rw [hzs] at HEnd
        have hH : Holds encStr wr g 0 ss.toArray := holds_of_block hbk (by simpa using h4)
        have hgl : g < wr.heap.size := (Array.getElem?_eq_some_iff.1 hbk).1
        have CS := Tryz.slices_Sort_string g 0 cap ss wr hH hgl (by omega)
        rw [hzs] at CS
        have CSH := Lib.hid CS
        have HBK := Lib.hid hbk
        obtain ⟨L, hL⟩ : ∃ L, ss.length = L := ⟨_, rfl⟩
        rw [hL] at CSH hzl h1
        rw [hL]
        clear CS hH hbk h4 HO
        repeat (first
          | (go_at_call 43; refine CSH.out.mono ?_; rintro r w1 ⟨rfl, nn, os, hw1⟩; simp only []; have HW1 := Lib.hid hw1; clear hw1)
          | (go_at_call 44; fail)
          | go_skip | go_guarded | go_step | go_upon)
        have hb1 := heap_sorted (n := nn) (os := os) zs.toArray HBK.out
        have g1 : wr.grownBy (grow (putRow encStr (Sort.ahead wr nn) g 0 zs.toArray) os) (some g) := grownBy_sorted _
        rw [← HW1.out] at hb1 g1
        have hH1 : Holds encStr w1 g 0 zs.toArray := holds_of_block hb1 (take_putCells cur zs (by omega))
        have CC := Tryz.slices_Compact_string g 0 cap zs w1 hH1 (by omega) (by omega)
        rw [hzl] at CC
        have CCH := Lib.hid CC
        have b1 := BZ.out.grown g1 BZ.out.size (fun j hj => by injection hj with hj; have := B0.out.size; omega)
        clear CC hH1
        refine CCH.out.mono ?_
        rintro r w2 ⟨rfl, q, hw2⟩
        simp only []
        have hcl : (Lib.compact zs).length ≤ zs.length := by
          unfold Lib.compact compactUpTo
          rw [List.length_map]
          have := List.length_filter_le (keeps zs.toArray) (List.range zs.length)
          rw [List.length_range] at this
          exact this
        have hro := compact_row (q := q) hbase hb1 (by omega) h2 (by simp [putCells, h3]) hcl
        have g2 : w1.grownBy (grow (putRow encStr (Sort.ahead w1 q) g 0 (Lib.compact zs ++ List.replicate (zs.length - (Lib.compact zs).length) []).toArray) #[]) (some g) := grownBy_sorted _
        rw [grow_empty] at g2
        rw [hzl] at hro g2
        rw [← hw2] at hro g2
        have b2 := b1.grown g2 b1.size (fun j hj => by injection hj with hj; have := B0.out.size; omega)
        rw [HEnd.out] at hro ⊢
        have HR := Lib.hid hro
        have HB2 := Lib.hid b2
        clear hro b2 b1 g1 g2 hb1 hw2
        repeat (first | go_skip | go_guarded | go_step | go_upon)
        go_ret
        exact ⟨_, rfl, owns_base HR.out _ B0.out.size, HB2.out⟩
end RC
end Go.Proofs.YtmpmmebmhffaeaaGreatDoor
end
section
/- Layer 12 over lists: how many items and agreed nodes there are at most (no program is read here). -/
namespace Go.Proofs.YtmpmmebmhffaeaaGreatDoor
open Go
namespace RC
open TP

theorem sortedK_nodup {l : List (List UInt8)} (h : SortedK l) : l.Nodup := by
  refine h.imp fun {a b} hab e => ?_
  rw [e, lex_irr] at hab
  cases hab
theorem sum_sub (r : List Nd) (f : Nd → List UInt8) : ∀ ks : List (List UInt8), ks.Nodup → (ks.map fun k => (r.filter fun n => decide (f n = k)).length).sum + (r.filter fun n => decide (f n ∉ ks)).length ≤ r.length
  | [], _ => by
    simp only [List.map_nil, List.sum_nil, Nat.zero_add]
    exact List.length_filter_le _ _
  | k :: ks, h => by
    have h1 := List.nodup_cons.1 h
    have ih := sum_sub r f ks h1.2
    have e : (r.filter fun n => decide (f n = k)).length + (r.filter fun n => decide (f n ∉ k :: ks)).length ≤ (r.filter fun n => decide (f n ∉ ks)).length := by
      clear ih
      induction r with
      | nil => simp
      | cons n r ih2 =>
        simp only [List.filter_cons]
        by_cases a : f n = k
        · have b : f n ∉ ks := fun hm => h1.1 (a ▸ hm)
          have c : ¬ (f n ∉ k :: ks) := fun hm => hm (by rw [a]; exact List.mem_cons_self ..)
          rw [if_pos (decide_eq_true a), if_neg (by simp only [decide_eq_true_eq]; exact c), if_pos (decide_eq_true b)]
          simp only [List.length_cons]
          omega
        · rw [if_neg (by simpa using a)]
          by_cases b : f n ∉ ks
          · have c : f n ∉ k :: ks := fun hm => by
              rcases List.mem_cons.1 hm with h2 | h2
              · exact a h2
              · exact b h2
            rw [if_pos (decide_eq_true c), if_pos (decide_eq_true b)]
            simp only [List.length_cons]
            omega
          · have c : ¬ (f n ∉ k :: ks) := fun hm => b (fun h3 => hm (List.mem_cons_of_mem _ h3))
            rw [if_neg (by simp only [decide_eq_true_eq]; exact c), if_neg (by simp only [decide_eq_true_eq]; exact b)]
            exact ih2
    rw [List.map_cons, List.sum_cons]
    omega
theorem sum_val (v : List Nd) (ks : List (List UInt8)) (h : ks.Nodup) : (ks.map fun k => (subL v k).length).sum + (if v = [] then 0 else 1) ≤ v.length := by
  cases v with
  | nil =>
    have : (ks.map fun k => (subL [] k).length) = ks.map fun _ => 0 := rfl
    rw [this]
    clear this h
    induction ks with
    | nil => simp
    | cons k ks ih => simpa using ih
  | cons x r =>
    have := sum_sub r (fun n => keyL x.path.length n.path) ks h
    rw [if_neg (by simp)]
    show (ks.map fun k => (r.filter _).length).sum + 1 ≤ r.length + 1
    omega
theorem flat_len {α : Type} (f : List UInt8 → List α) (g : List UInt8 → Nat) : ∀ ks : List (List UInt8), (∀ k ∈ ks, (f k).length ≤ g k) → (ks.flatMap f).length ≤ (ks.map g).sum
  | [], _ => by simp
  | k :: ks, h => by
    rw [List.flatMap_cons, List.length_append, List.map_cons, List.sum_cons]
    have h1 := h k (List.mem_cons_self ..)
    have h2 := flat_len f g ks (fun x hx => h x (List.mem_cons_of_mem _ hx))
    omega
theorem sum_three (f g h : List UInt8 → Nat) : ∀ ks : List (List UInt8), (ks.map fun k => f k + g k + h k).sum = (ks.map f).sum + (ks.map g).sum + (ks.map h).sum
  | [] => rfl
  | k :: ks => by
    simp only [List.map_cons, List.sum_cons]
    rw [sum_three f g h ks]
    omega
theorem three_sum (o a b : List Nd) : ((namesK o a b).map fun k => (subL o k).length + (subL a k).length + (subL b k).length).sum + (if a = [] then 0 else 1) ≤ o.length + a.length + b.length := by
  have hn : (namesK o a b).Nodup := sortedK_nodup (sorted_ordK _)
  have h1 := sum_val o _ hn
  have h2 := sum_val a _ hn
  have h3 := sum_val b _ hn
  rw [sum_three]
  omega
theorem items_lenF : ∀ (f : Nat) (p : List UInt8) (o a b : List Nd), (itemsF f p o a b).length ≤ o.length + a.length + b.length
  | 0, _, _, _, _ => Nat.zero_le _
  | f + 1, p, o, a, b => by
    have one : o ≠ [] ∨ a ≠ [] ∨ b ≠ [] → 1 ≤ o.length + a.length + b.length := by
      rintro (h | h | h) <;> have := List.length_pos_iff.2 h <;> omega
    unfold itemsF
    split
    · rename_i h1
      split
      · exact Nat.zero_le _
      · rename_i h2
        refine one ?_
        by_cases ho : o = []
        · by_cases ha : a = []
          · exact absurd (ho.trans ha.symm) h2
          · exact .inr (.inl ha)
        · exact .inl ho
    · rename_i h1
      split
      · refine Nat.le_trans (flat_len _ _ _ (fun k _ => items_lenF f _ _ _ _)) ?_
        have := three_sum o a b
        omega
      · have h2 : 1 ≤ o.length + a.length + b.length := by
          refine one ?_
          by_cases ha : a = []
          · by_cases hb : b = []
            · exact absurd (ha.trans hb.symm) h1
            · exact .inr (.inr hb)
          · exact .inr (.inl ha)
        split
        · exact h2
        · split
          · exact h2
          · exact h2
theorem items_len (p : List UInt8) (o a b : List Nd) : (itemsL p o a b).length ≤ o.length + a.length + b.length := items_lenF _ _ _ _ _
theorem agreed_lenF : ∀ (f : Nat) (o a b : List Nd), (agreedF f o a b).length ≤ o.length + a.length + b.length
  | 0, _, _, _ => Nat.zero_le _
  | f + 1, o, a, b => by
    unfold agreedF
    split
    · omega
    · split
      · rename_i h2
        have hne : a ≠ [] := fun e => by rw [e] at h2; cases h2.1
        have h3 := flat_len (fun k => agreedF f (subL o k) (subL a k) (subL b k)) _ (namesK o a b) (fun k _ => agreed_lenF f _ _ _)
        have h4 := three_sum o a b
        rw [if_neg hne] at h4
        rw [List.length_append, List.length_take]
        omega
      · omega
theorem agreed_len (o a b : List Nd) : (agreedL o a b).length ≤ o.length + a.length + b.length := agreed_lenF _ _ _ _
end RC
end Go.Proofs.YtmpmmebmhffaeaaGreatDoor
end
