/- Texts of this seat, put one behind the other: RtH RtJ. -/
import Derived.Test.YtmpmmebmhffaeaaGreatDoorQRtG
set_option linter.all false
set_option maxRecDepth 100000
set_option maxHeartbeats 25600000
section
/- Layer 12: the document's agree, Agree. -/
namespace Go.Proofs.YtmpmmebmhffaeaaGreatDoor
open Go.RowKit Go.Lib Go.Maps Go.BigFrame Go.Sort
namespace RC
open OM TP TM TR TG TW NP

/-- The root itself is no node. -/
def rl (p : List UInt8) (l : List Nd) : List Nd := if p = [] then l.drop 1 else l
theorem set_cut {n : Nd} {p : List UInt8} (hp : p ≠ []) (h : withinL n.path p = true) : setP p (cutN p n) = n := by
  obtain ⟨s, hs⟩ := (TP.within_iff (within_path h) hp).1 h
  obtain ⟨a, b, c, d⟩ := n
  simp only at hs h
  unfold setP cutN
  simp only
  by_cases h0 : a = p
  · rw [if_pos h0, if_pos rfl, h0]
  · have hs0 : s ≠ [] := fun e => h0 (by rw [hs, e, place_nil])
    rw [place_ne p hs0] at hs
    have hd : a.drop (p.length + 1) = s := by
      rw [hs, ← List.drop_drop, List.drop_left]
      rfl
    rw [if_neg h0, hd, if_neg hs0, if_neg hp, hs]
theorem laid_at {t : List Nd} (ht : Tree t) (p : List UInt8) : laidL (atL t p) p = rl p (valP t p) := by
  unfold atL rl
  rw [if_pos ((tree_iff t).2 ht)]
  by_cases hp : p = []
  · rw [if_pos hp, if_pos hp, hp, valP_nil]
    unfold laidL
    rw [List.map_cons, List.filter_cons, if_neg (by simp [setP, root])]
    have e : t.map (setP []) = t := by
      rw [show t = t.map id by simp]
      rw [List.map_map]
      refine List.map_congr_left fun n hn => ?_
      show setP [] (id n) = id n
      unfold setP
      simp only [id, if_true]
      rw [if_neg (path_ne (ht.path n hn))]
    rw [e, List.filter_eq_self.2 (fun n hn => by simpa using path_ne (ht.path n hn))]
    rfl
  · rw [if_neg hp, if_neg hp, valP_ne t hp]
    unfold laidL
    rw [List.map_map]
    have e : (t.filter fun n => withinL n.path p).map (setP p ∘ cutN p) = t.filter fun n => withinL n.path p := by
      conv => rhs; rw [← List.map_id (t.filter fun n => withinL n.path p)]
      exact List.map_congr_left fun n hn => set_cut hp (List.mem_filter.1 hn).2
    rw [e, List.filter_eq_self.2 (fun n hn => by simpa using path_ne (within_path (List.mem_filter.1 hn).2))]
theorem dir_head {t : List Nd} (ht : Tree t) {p : List UInt8} (hp : pathL p = true) (hd : dirV (valP t p) = true) : (valP t p).take 1 = [⟨p, 2, [], 0⟩] := by
  cases hv : valP t p with
  | nil => rw [hv] at hd; cases hd
  | cons h r =>
    rw [hv] at hd
    obtain ⟨h1, h2, _⟩ := head_p ht hp hv
    have hk : h.kind = 2 := by unfold dirV at hd; simpa using hd
    show [h] = _
    rw [right_dir (ht.right _ h2) hk, h1]
/-- A list of nodes appended to one of the call's own. -/
theorem app_nodes (W : World) (base : Nat) (ao : Option Addr) (cap n k : Nat) (l m : List Nd) (v : Value) (hl : LayN W ao l) (hown : W.ownsRow base 40 4 v k (nodesC m)) (hb : base ≤ W.heap.size) (hn : k + n ≤ 6006) (hnn : l.length = n) :
    ∃ v' w', (Builtin.append_ #[22, 22] 22 #[v, .slice ao n cap]).run Tryz.prog W = .ok v' w' ∧ w'.ownsRow base 40 4 v' (k + n) (nodesC (m ++ l)) ∧ W.grownBy w' v.ownBlock := by
  obtain ⟨i1, hi1, hy0, hy1, hy2⟩ := info_parts infoN
  have happ : nodesC (m ++ l) = nodesC m ++ nodesC l := by unfold nodesC; rw [List.flatMap_append]
  subst hnn
  rw [happ]
  cases ao with
  | some a0 =>
    obtain ⟨v', w', h1, h2, h3, -⟩ := run_append_own (P := Tryz.prog) W base 22 22 40 i1 _ 4 48 Tryz.underlying22 hi1 hy0 hy1 hy2 rfl (by decide) v k (nodesC m) hown a0 l.length cap (nodesC l) (nodes_len l) (lay_cells hl) (nds_one l) (by unfold maxLen; omega) (by omega) hb
    exact ⟨v', w', h1, h2, h3⟩
  | none =>
    obtain rfl : l = [] := by
      cases l with
      | nil => rfl
      | cons x l =>
        obtain ⟨g, o, e, _⟩ := hl (by simp)
        cases e
    refine ⟨v, W, ?_, by rw [List.length_nil, Nat.add_zero, show nodesC [] = [] from rfl, List.append_nil]; exact hown, ⟨rfl, rfl, rfl, Nat.le_refl _, fun _ _ _ => rfl⟩⟩
    show (Builtin.append_ #[22, 22] 22 #[v, .slice none 0 cap]).run Tryz.prog W = .ok v W
    rcases hown.2 with ⟨rfl, h4⟩ | ⟨g, cap', cur, rfl, _, _, hnc, _⟩
    · subst h4
      simp [Builtin.append_, run_underlying Tryz.underlying22, sizeOf, typeInfo, hi1, Builtin.lenOf, Builtin.firstCells]
    · simp [Builtin.append_, run_underlying Tryz.underlying22, sizeOf, typeInfo, hi1, Builtin.lenOf, Builtin.firstCells, hnc, storeCells]
theorem at_small {t : List Nd} (ht : Tree t) {p : List UInt8} {n : Nd} (hn : n ∈ atL t p) : n.path.length ≤ 1048576 := by
  unfold atL at hn
  rw [if_pos ((tree_iff t).2 ht)] at hn
  split at hn
  · rcases List.mem_cons.1 hn with rfl | hn
    · simp [root]
    · exact small_path (ht.path n hn)
  · obtain ⟨m, hm, rfl⟩ := List.mem_map.1 hn
    have := small_path (ht.path m (List.mem_filter.1 hm).1)
    unfold cutN
    simp only
    split
    · simp
    · rw [List.length_drop]; omega
section
variable {xo ta tb : List Nd} {ao aa ab : Option Addr} {co ca cb : Nat} {w : World}
set_option maxRecDepth 100000 in
set_option maxHeartbeats 12800000 in
theorem ragree_any (ho : Tree xo) (ha : Tree ta) (hb : Tree tb) (lo : Lst w ao co xo) (la : Lst w aa ca ta) (lb : Lst w ab cb tb) : ∀ (N : Nat) (p : List UInt8), (p = [] ∨ pathL p = true) → (valP ta p).length < N → ∀ (W : World), Below w.heap.size w W →
    Calls Tryz.prog 19 #[.slice ao xo.length co, .slice aa ta.length ca, .slice ab tb.length cb, txt p] W (AtPost (rl p (agreedL (valP xo p) (valP ta p) (valP tb p))) W)
  | 0, _, _, hN, _, _ => absurd hN (Nat.not_lt_zero _)
  | N + 1, p, hp, hN, W, hW => by
    have hps : p.length ≤ 1048576 := by
      rcases hp with rfl | hp
      · simp
      · exact small_path hp
    have CO : Hid (∀ X, Below w.heap.size w X → Calls Tryz.prog 29 #[.slice ao xo.length co, txt p] X (AtPost (atL xo p) X)) := Lib.hid (fun X hX => rvalue_any ao co xo p X (lo.lay.below hX) lo.small lo.max hps lo.no)
    have CA : Hid (∀ X, Below w.heap.size w X → Calls Tryz.prog 29 #[.slice aa ta.length ca, txt p] X (AtPost (atL ta p) X)) := Lib.hid (fun X hX => rvalue_any aa ca ta p X (la.lay.below hX) la.small la.max hps la.no)
    have CB : Hid (∀ X, Below w.heap.size w X → Calls Tryz.prog 29 #[.slice ab tb.length cb, txt p] X (AtPost (atL tb p) X)) := Lib.hid (fun X hX => rvalue_any ab cb tb p X (lb.lay.below hX) lb.small lb.max hps lb.no)
    have NO : Hid (∀ X, Below w.heap.size w X → Calls Tryz.prog 32 #[.slice ao xo.length co, txt p] X (NamesPost xo p X)) := Lib.hid (fun X hX => rnames_any ao co xo p X (lo.lay.below hX) lo.small lo.max)
    have NA : Hid (∀ X, Below w.heap.size w X → Calls Tryz.prog 32 #[.slice aa ta.length ca, txt p] X (NamesPost ta p X)) := Lib.hid (fun X hX => rnames_any aa ca ta p X (la.lay.below hX) la.small la.max)
    have NB : Hid (∀ X, Below w.heap.size w X → Calls Tryz.prog 32 #[.slice ab tb.length cb, txt p] X (NamesPost tb p X)) := Lib.hid (fun X hX => rnames_any ab cb tb p X (lb.lay.below hX) lb.small lb.max)
    have IH : Hid (∀ k ∈ namesK (valP xo p) (valP ta p) (valP tb p), dirV (valP ta p) = true → ∀ (X : World), Below w.heap.size w X →
        Calls Tryz.prog 19 #[.slice ao xo.length co, .slice aa ta.length ca, .slice ab tb.length cb, txt (belowP p k)] X (AtPost (agreedL (subL (valP xo p) k) (subL (valP ta p) k) (subL (valP tb p) k)) X)) := Lib.hid (fun k hk hd X hX => by
      obtain ⟨n1, n2, n3, n4, -⟩ := name_ok ho ha hb hp hk
      have hne : valP ta p ≠ [] := fun e => by rw [e] at hd; cases hd
      have hl := sub_len (valP ta p) k hne
      rw [n3] at hl
      rw [n2, n3, n4]
      have := ragree_any ho ha hb lo la lb N (belowP p k) (.inr n1) (by omega) X hX
      unfold rl at this
      rw [if_neg (path_ne n1)] at this
      exact this)
    have HBel : Hid (∀ k ∈ namesK (valP xo p) (valP ta p) (valP tb p), ∀ X, Calls Tryz.prog 33 #[txt p, txt k] X fun r w' => r = .returned (txt (belowP p k)) ∧ Below X.heap.size X w') := Lib.hid (fun k hk X => by
      obtain ⟨n1, -⟩ := name_ok ho ha hb hp hk
      have hks : k.length ≤ 1048576 := by
        have h4 := small_path n1
        have h5 : k.length ≤ (belowP p k).length := by
          rcases hp with rfl | hp
          · rw [below_nil]; exact Nat.le_refl _
          · rw [below_ne hp, List.length_append, List.length_cons]; omega
        omega
      have := rbelow_any p k X hps hks
      have e : (if p = [] then k else p ++ 47 :: k) = belowP p k := by
        rcases hp with rfl | hp
        · rw [if_pos rfl, below_nil]
        · rw [if_neg (path_ne hp), below_ne hp]
      rw [e] at this
      exact this)
    have hAl := at_len ho p
    have hBl := at_len ha p
    have hCl := at_len hb p
    have S1 : Hid (∀ X (u1 u2 : Option Addr) (d1 d2 : Nat), LayN X u1 (atL ta p) → LayN X u2 (atL tb p) → Calls Tryz.prog 11 #[.slice u1 (atL ta p).length d1, .slice u2 (atL tb p).length d2] X fun r w' => r = .returned (.bool (decide (valP ta p = valP tb p))) ∧ Below X.heap.size X w') := Lib.hid (fun X u1 u2 d1 d2 h1 h2 => by
      have := rsame_any u1 u2 d1 d2 _ _ X h1 h2 (by unfold maxLen; omega) (by unfold maxLen; omega)
      rw [decide_eq_decide.2 (at_val ha hb p)] at this
      exact this)
    have D1 : Hid (∀ X (u1 : Option Addr) (d1 : Nat), LayN X u1 (atL ta p) → Calls Tryz.prog 30 #[.slice u1 (atL ta p).length d1] X fun r w' => r = .returned (.bool (dirV (valP ta p))) ∧ Below X.heap.size X w') := Lib.hid (fun X u1 d1 h1 => by
      have := rdir12_any u1 d1 _ X h1 (by omega)
      rw [dir_at ha p] at this
      exact this)
    have D2 : Hid (∀ X (u1 : Option Addr) (d1 : Nat), LayN X u1 (atL tb p) → Calls Tryz.prog 30 #[.slice u1 (atL tb p).length d1] X fun r w' => r = .returned (.bool (dirV (valP tb p))) ∧ Below X.heap.size X w') := Lib.hid (fun X u1 d1 h1 => by
      have := rdir12_any u1 d1 _ X h1 (by omega)
      rw [dir_at hb p] at this
      exact this)
    have hnl := names_le ho p
    have hnl2 := names_le ha p
    have hnl3 := names_le hb p
    have CN : Hid (∀ X (u1 u2 u3 : Option Addr) (d1 d2 d3 : Nat), LayS X u1 (namesL xo p) → LayS X u2 (namesL ta p) → LayS X u3 (namesL tb p) → Calls Tryz.prog 31 #[.slice u1 (namesL xo p).length d1, .slice u2 (namesL ta p).length d2, .slice u3 (namesL tb p).length d3] X fun r w' => ∃ v, r = .returned v ∧ w'.ownsRow X.heap.size 9 1 v (namesK (valP xo p) (valP ta p) (valP tb p)).length ((namesK (valP xo p) (valP ta p) (valP tb p)).map txt) ∧ Below X.heap.size X w') := Lib.hid (fun X u1 u2 u3 d1 d2 d3 h1 h2 h3 => by
      have := rnames12_any u1 u2 u3 d1 d2 d3 _ _ _ X h1 h2 h3 (by omega) (by omega) (by omega)
      rw [names_eq ho ha hb hp] at this
      exact this)
    have LA : Hid (∀ X (u1 : Option Addr) (d1 : Nat), LayN X u1 (atL ta p) → Calls Tryz.prog 34 #[.slice u1 (atL ta p).length d1, txt p] X (AtPost (rl p (valP ta p)) X)) := Lib.hid (fun X u1 d1 h1 => by
      have := rlaid_any u1 d1 _ p X h1 hBl (fun n hn => at_small ha hn) hps
      rw [laid_at ha p] at this
      exact this)
    have LO : Hid (∀ X (u1 : Option Addr) (d1 : Nat), LayN X u1 (atL xo p) → Calls Tryz.prog 34 #[.slice u1 (atL xo p).length d1, txt p] X (AtPost (rl p (valP xo p)) X)) := Lib.hid (fun X u1 d1 h1 => by
      have := rlaid_any u1 d1 _ p X h1 hAl (fun n hn => at_small ho hn) hps
      rw [laid_at ho p] at this
      exact this)
    have hst := agreed_step (valP xo p) (valP ta p) (valP tb p)
    have hlen : (agreedL (valP xo p) (valP ta p) (valP tb p)).length ≤ 3003 := by
      have := agreed_len (valP xo p) (valP ta p) (valP tb p)
      have h1 := val_len ho p
      have h2 := val_len ha p
      have h3 := val_len hb p
      omega
    have hhead : p ≠ [] → dirV (valP ta p) = true → (valP ta p).take 1 = [⟨p, 2, [], 0⟩] := fun h0 hd => dir_head ha (by
      rcases hp with e | e
      · exact absurd e h0
      · exact e) hd
    have htl : p = [] → (valP ta p).take 1 = [root] := fun h0 => by rw [h0, valP_nil]; rfl
    have hnk : (namesK (valP xo p) (valP ta p) (valP tb p)).length ≤ 3003 := by
      have := ordK_len (namesL xo p ++ namesL ta p ++ namesL tb p)
      rw [names_eq ho ha hb hp] at this
      simp only [List.length_append] at this
      omega
    unfold NamesPost at NO NA NB
    unfold AtPost at CO CA CB IH LA LO
    generalize atL xo p = Vo at CO LO
    generalize atL ta p = Va at CA S1 D1 LA
    generalize atL tb p = Vb at CB S1 D2
    generalize namesL xo p = Mo at NO CN
    generalize namesL ta p = Ma at NA CN
    generalize namesL tb p = Mb at NB CN
    obtain ⟨IF, hIF⟩ : ∃ IF : List UInt8 → List Nd, ∀ k, agreedL (subL (valP xo p) k) (subL (valP ta p) k) (subL (valP tb p) k) = IF k := ⟨_, fun _ => rfl⟩
    simp only [hIF] at IH hst
    obtain ⟨Q, hQ⟩ : ∃ Q, agreedL (valP xo p) (valP ta p) (valP tb p) = Q := ⟨_, rfl⟩
    rw [hQ] at hst hlen ⊢
    generalize namesK (valP xo p) (valP ta p) (valP tb p) = K at IH HBel CN hst hnk
    generalize valP xo p = qo at *
    generalize valP ta p = qa at *
    generalize valP tb p = qb at *
    obtain ⟨no, hno⟩ : ∃ n, xo.length = n := ⟨_, rfl⟩
    obtain ⟨na, hna⟩ : ∃ n, ta.length = n := ⟨_, rfl⟩
    obtain ⟨nb, hnb⟩ : ∃ n, tb.length = n := ⟨_, rfl⟩
    rw [hno] at CO NO IH ⊢
    rw [hna] at CA NA IH ⊢
    rw [hnb] at CB NB IH ⊢
    obtain ⟨mo, hmo⟩ : ∃ n, Vo.length = n := ⟨_, rfl⟩
    obtain ⟨ma, hma⟩ : ∃ n, Va.length = n := ⟨_, rfl⟩
    obtain ⟨mb, hmb⟩ : ∃ n, Vb.length = n := ⟨_, rfl⟩
    rw [hmo] at LO
    rw [hma] at S1 D1 LA
    rw [hmb] at S1 D2
    have HW := Lib.hid hW
    have HST := Lib.hid hst
    have HLen := Lib.hid hlen
    have HHead := Lib.hid hhead
    have HTl := Lib.hid htl
    have HMo := Lib.hid hmo
    have HMa := Lib.hid hma
    have HMb := Lib.hid hmb
    unfold txt at CO CA CB NO NA NB LA LO
    clear hps hAl hBl hCl hnl hnl2 hnl3 hst hIF hQ hno hna hnb hmo hma hmb hW hlen hhead htl ho ha hb lo la lb hN hp ragree_any
    unfold txt
    go_enter Tryz.func19, Tryz.ntmps19
    repeat (first | go_skip | go_guarded | go_step | go_upon)
    refine (CA.out W HW.out).mono ?_
    rintro r w2 ⟨va, rfl, o2, hb2⟩
    simp only []
    obtain ⟨ua, da, rfl, l2⟩ := lay_own o2
    rw [HMa.out]
    have B2 := Lib.hid (HW.out.trans (hb2.mono HW.out.size))
    have BW2 := Lib.hid hb2
    have L2 := Lib.hid l2
    clear o2 hb2 l2
    repeat (first | go_skip | go_guarded | go_step | go_upon)
    refine (CB.out w2 B2.out).mono ?_
    rintro r w3 ⟨vb, rfl, o3, hb3⟩
    simp only []
    obtain ⟨ub, db, rfl, l3⟩ := lay_own o3
    rw [HMb.out]
    have B3 := Lib.hid (B2.out.trans (hb3.mono B2.out.size))
    have BW3 := Lib.hid (BW2.out.trans (hb3.mono BW2.out.size))
    have L2 := Lib.hid (L2.out.below hb3)
    have L3 := Lib.hid l3
    clear o3 hb3 l3
    repeat (first | go_skip | go_guarded | go_step | go_upon)
    refine (S1.out w3 ua ub da db L2.out L3.out).mono ?_
    rintro r w4 ⟨rfl, hb4⟩
    simp only []
    have B4 := Lib.hid (B3.out.trans (hb4.mono B3.out.size))
    have BW4 := Lib.hid (BW3.out.trans (hb4.mono BW3.out.size))
    have L2 := Lib.hid (L2.out.below hb4)
    have L3 := Lib.hid (L3.out.below hb4)
    clear hb4
    by_cases h1 : qa = qb
    · rw [decide_eq_true h1]
      have HQ : Hid (rl p Q = rl p qa) := Lib.hid (by rw [HST.out, if_pos h1])
      repeat (first | go_skip | go_guarded | go_step | go_upon)
      refine (LA.out w4 ua da L2.out).mono ?_
      rintro r w5 ⟨v5, rfl, o5, hb5⟩
      simp only []
      have O5 := Lib.hid (owns_low o5 BW4.out.size)
      have BW5 := Lib.hid (BW4.out.trans (hb5.mono BW4.out.size))
      obtain ⟨u5, d5, rfl, -⟩ := owns_view o5
      clear o5 hb5
      repeat (first | go_skip | go_guarded | go_step | go_upon)
      go_ret
      rw [HQ.out]
      exact ⟨_, rfl, O5.out, BW5.out⟩
    · rw [decide_eq_false h1]
      repeat (first | go_skip | go_guarded | go_step | go_upon)
      refine (D1.out w4 ua da L2.out).mono ?_
      rintro r w5 ⟨rfl, hb5⟩
      simp only []
      have B5 := Lib.hid (B4.out.trans (hb5.mono B4.out.size))
      have BW5 := Lib.hid (BW4.out.trans (hb5.mono BW4.out.size))
      have L3 := Lib.hid (L3.out.below hb5)
      clear hb5
      cases hda : dirV qa with
      | false =>
        have HQ : Hid (rl p Q = rl p qo) := Lib.hid (by rw [HST.out, if_neg h1, if_neg (by rw [hda]; simp)])
        repeat (first | go_skip | go_guarded | go_step | go_upon)
        refine (CO.out w5 B5.out).mono ?_
        rintro r w8 ⟨vo, rfl, o8, hb8⟩
        simp only []
        obtain ⟨uo, do_, rfl, l8⟩ := lay_own o8
        rw [HMo.out]
        have BW8 := Lib.hid (BW5.out.trans (hb8.mono BW5.out.size))
        have L8 := Lib.hid l8
        clear o8 hb8 l8
        repeat (first | go_skip | go_guarded | go_step | go_upon)
        refine (LO.out w8 uo do_ L8.out).mono ?_
        rintro r w9 ⟨v9, rfl, o9, hb9⟩
        simp only []
        have O9 := Lib.hid (owns_low o9 BW8.out.size)
        have BW9 := Lib.hid (BW8.out.trans (hb9.mono BW8.out.size))
        obtain ⟨u9, d9, rfl, -⟩ := owns_view o9
        clear o9 hb9
        repeat (first | go_skip | go_guarded | go_step | go_upon)
        go_ret
        rw [HQ.out]
        exact ⟨_, rfl, O9.out, BW9.out⟩
      | true =>
        rw [hda] at IH
        repeat (first | go_skip | go_guarded | go_step | go_upon)
        refine (D2.out w5 ub db L3.out).mono ?_
        rintro r w6 ⟨rfl, hb6⟩
        simp only []
        have B6 := Lib.hid (B5.out.trans (hb6.mono B5.out.size))
        have BW6 := Lib.hid (BW5.out.trans (hb6.mono BW5.out.size))
        clear hb6
        cases hdb : dirV qb with
        | false =>
          have HQ : Hid (rl p Q = rl p qo) := Lib.hid (by rw [HST.out, if_neg h1, if_neg (by rw [hdb]; simp)])
          repeat (first | go_skip | go_guarded | go_step | go_upon)
          refine (CO.out w6 B6.out).mono ?_
          rintro r w8 ⟨vo, rfl, o8, hb8⟩
          simp only []
          obtain ⟨uo, do_, rfl, l8⟩ := lay_own o8
          rw [HMo.out]
          have BW8 := Lib.hid (BW6.out.trans (hb8.mono BW6.out.size))
          have L8 := Lib.hid l8
          clear o8 hb8 l8
          repeat (first | go_skip | go_guarded | go_step | go_upon)
          refine (LO.out w8 uo do_ L8.out).mono ?_
          rintro r w9 ⟨v9, rfl, o9, hb9⟩
          simp only []
          have O9 := Lib.hid (owns_low o9 BW8.out.size)
          have BW9 := Lib.hid (BW8.out.trans (hb9.mono BW8.out.size))
          obtain ⟨u9, d9, rfl, -⟩ := owns_view o9
          clear o9 hb9
          repeat (first | go_skip | go_guarded | go_step | go_upon)
          go_ret
          rw [HQ.out]
          exact ⟨_, rfl, O9.out, BW9.out⟩
        | true =>
          cases p with
          | nil =>
            have HQ : Hid (rl [] Q = [] ++ K.flatMap IF) := Lib.hid (by
              rw [HST.out, if_neg h1, if_pos ⟨hda, hdb⟩, HTl.out rfl]
              rfl)
            have O6 : Hid (w6.ownsRow W.heap.size 40 4 (.slice none 0 0) ([] : List Nd).length (nodesC [])) := Lib.hid (World.ownsRow_nil _ _ _ _)
            repeat (first | go_skip | go_guarded | go_step | go_upon)
            refine (NO.out w6 B6.out).mono ?_
            rintro r w7 ⟨vm, rfl, om, hb7⟩
            simp only []
            obtain ⟨u7, d7, rfl, l7⟩ := lay_texts om
            have B7 := Lib.hid (B6.out.trans (hb7.mono B6.out.size))
            have BX7 := Lib.hid hb7
            have T7 := Lib.hid l7
            clear om hb7 l7
            repeat (first | go_skip | go_guarded | go_step | go_upon)
            refine (NA.out w7 B7.out).mono ?_
            rintro r w8 ⟨vm, rfl, om, hb8⟩
            simp only []
            obtain ⟨u8, d8, rfl, l8⟩ := lay_texts om
            have B8 := Lib.hid (B7.out.trans (hb8.mono B7.out.size))
            have BX8 := Lib.hid (BX7.out.trans (hb8.mono BX7.out.size))
            have T7 := Lib.hid (T7.out.below hb8)
            have T8 := Lib.hid l8
            clear om hb8 l8
            repeat (first | go_skip | go_guarded | go_step | go_upon)
            refine (NB.out w8 B8.out).mono ?_
            rintro r w9 ⟨vm, rfl, om, hb9⟩
            simp only []
            obtain ⟨u9, d9, rfl, l9⟩ := lay_texts om
            have B9 := Lib.hid (B8.out.trans (hb9.mono B8.out.size))
            have BX9 := Lib.hid (BX8.out.trans (hb9.mono BX8.out.size))
            have T7 := Lib.hid (T7.out.below hb9)
            have T8 := Lib.hid (T8.out.below hb9)
            have T9 := Lib.hid l9
            clear om hb9 l9
            repeat (first | go_skip | go_guarded | go_step | go_upon)
            refine (CN.out w9 u7 u8 u9 d7 d8 d9 T7.out T8.out T9.out).mono ?_
            rintro r wn ⟨vm, rfl, om, hbn⟩
            simp only []
            obtain ⟨un, dn, rfl, ln⟩ := lay_t om
            have B10 := Lib.hid (B9.out.trans (hbn.mono B9.out.size))
            have BX10 := Lib.hid (BX9.out.trans (hbn.mono BX9.out.size))
            have BW10 := Lib.hid (BW6.out.trans (BX10.out.mono BW6.out.size))
            have TN := Lib.hid ln
            obtain ⟨nk, hnkk⟩ : ∃ n, K.length = n := ⟨_, rfl⟩
            have HNk := Lib.hid hnkk
            rw [hnkk] at hnk ⊢
            have hOn := owns_below O6.out BX10.out
            have h0 : Hid (wn.ownsRow W.heap.size 40 4 (.slice none 0 0) (([] : List Nd) ++ (K.take 0).flatMap IF).length (nodesC (([] : List Nd) ++ (K.take 0).flatMap IF))) := Lib.hid (by
              rw [List.take_zero, List.flatMap_nil, List.append_nil]
              exact hOn)
            clear om hbn ln hnkk hOn
            repeat (first | go_skip | go_guarded | go_step | go_upon)
            go_loopw [11, 13] (fun s11 s13 wr => ∃ i : Nat, s13 = .int .i64 i ∧ i ≤ nk ∧ wr.ownsRow W.heap.size 40 4 s11 (([] : List Nd) ++ (K.take i).flatMap IF).length (nodesC (([] : List Nd) ++ (K.take i).flatMap IF)) ∧ Below W.heap.size W wr ∧ KeepT wn wr) (fun _ s13 _ => nk - (Go.RowKit.intOf s13).toNat)
            case atStart => exact ⟨0, rfl, Nat.zero_le _, h0.out, BW10.out, KeepT.refl _⟩
            case round =>
              obtain ⟨i, rfl, hi2, hoi, hbi, hki⟩ := hrel
              have HOi := Lib.hid hoi
              have HBi := Lib.hid hbi
              have HKi := Lib.hid hki
              clear hoi hbi hki
              by_cases hlt : i < nk
              · have hiz : (i : Int) < nk := by omega
                obtain ⟨gk, ck, fk, rfl, hgk, hck⟩ := (TN.out.keep HKi.out) (by rw [HNk.out]; omega)
                obtain ⟨k, hk⟩ : ∃ k, K[i]? = some k := ⟨K[i]'(by rw [HNk.out]; exact hlt), List.getElem?_eq_getElem _⟩
                have kc := hck i k hk
                have hkm := List.mem_of_getElem? hk
                have hfl : (K.take (i + 1)).flatMap IF = (K.take i).flatMap IF ++ IF k := by
                  rw [List.take_add_one, hk, Option.toList_some, List.flatMap_append]
                  simp
                have hle : Hid ((([] : List Nd) ++ (K.take i).flatMap IF).length + (IF k).length ≤ 6006) := Lib.hid (by
                  have h := HLen.out
                  have h2 : (rl [] Q).length ≤ Q.length := by
                    unfold rl
                    split
                    · rw [List.length_drop]; omega
                    · exact Nat.le_refl _
                  rw [HQ.out] at h2
                  have e : K.flatMap IF = (K.take (i + 1)).flatMap IF ++ (K.drop (i + 1)).flatMap IF := by
                    rw [← List.flatMap_append, List.take_append_drop]
                  rw [e, hfl] at h2
                  simp only [List.length_append] at h2 ⊢
                  omega)
                have CB2 := HBel.out k hkm wr
                have CI2 : Hid (∀ X, Below w.heap.size w X → _) := Lib.hid (fun X hX => IH.out k hkm rfl X hX)
                have HFl := Lib.hid hfl
                unfold txt at kc CB2 CI2
                clear hck hk hkm hfl hgk
                have CB2 := Lib.hid CB2
                repeat (first | go_skip | go_guarded | go_step | go_upon)
                refine CB2.out.mono ?_
                rintro r wb ⟨rfl, hbb⟩
                simp only []
                have HBb := Lib.hid hbb
                have Bwb := Lib.hid (HW.out.trans ((HBi.out.trans (hbb.mono HBi.out.size)).mono HW.out.size))
                clear hbb
                repeat (first | go_skip | go_guarded | go_step | go_upon)
                refine (CI2.out wb Bwb.out).mono ?_
                rintro r wc ⟨v2, rfl, o2, hb2⟩
                simp only []
                obtain ⟨u2, d2, rfl, l2⟩ := lay_own o2
                have hbc := HBb.out.trans (hb2.mono HBb.out.size)
                have hOc := owns_below HOi.out hbc
                have hBc := HBi.out.trans (hbc.mono HBi.out.size)
                obtain ⟨nlen, hnlen⟩ : ∃ n, (IF k).length = n := ⟨_, rfl⟩
                obtain ⟨v', w', hrun, ho', hg'⟩ := app_nodes wc W.heap.size u2 d2 nlen _ (IF k) (([] : List Nd) ++ (K.take i).flatMap IF) _ l2 hOc hBc.size (by rw [← hnlen]; exact hle.out) hnlen
                have HO2 : Hid (w'.ownsRow W.heap.size 40 4 v' (([] : List Nd) ++ (K.take (i + 1)).flatMap IF).length (nodesC (([] : List Nd) ++ (K.take (i + 1)).flatMap IF))) := Lib.hid (by
                  rw [HFl.out, ← List.append_assoc, List.length_append, hnlen]
                  exact ho')
                have HB2 := Lib.hid (hBc.grown hg' hBc.size (fun j hj => (hOc.lt j hj).1))
                have HK2 := Lib.hid (HKi.out.trans ((KeepT.below hbc).trans (KeepT.grown hg' hOc (by decide))))
                rw [hnlen]
                clear o2 hb2 l2 hbc hOc hBc ho' hg' hnlen
                repeat (first | (at_builtin; refine step_app_l rfl (.tmp 62) (.tmp 72) 22 22 rfl u11 (.slice u2 nlen d2) rfl rfl hrun ?_; clear hrun) | go_skip | go_guarded | go_step | go_upon)
                exact ⟨⟨i + 1, by go_num, by omega, HO2.out, HB2.out, HK2.out⟩, by simp [Go.RowKit.intOf]; omega⟩
              · obtain rfl : nk = i := by omega
                have HOe : Hid (wr.ownsRow W.heap.size 40 4 u11 (rl [] Q).length (nodesC (rl [] Q))) := Lib.hid (by
                  have h := HOi.out
                  rw [List.take_of_length_le (by rw [HNk.out]; exact Nat.le_refl _)] at h
                  rw [HQ.out]
                  exact h)
                obtain ⟨aE, cE, rfl, -⟩ := owns_view HOi.out
                repeat (first | go_skip | go_guarded | go_step | go_upon)
                go_ret
                exact ⟨_, rfl, HOe.out, HBi.out⟩
          | cons p0 p =>
            have HQ : Hid (rl (p0 :: p) Q = [⟨p0 :: p, 2, [], 0⟩] ++ K.flatMap IF) := Lib.hid (by
              rw [HST.out, if_neg h1, if_pos ⟨hda, hdb⟩, HHead.out (by simp) hda]
              rfl)
            obtain ⟨i0, hi, hz0, hz1, hz2⟩ := info_parts infoN
            have HNil : Hid ((w6.alloc (.cells #[.string ⟨(p0 :: p).toArray⟩, .int .i64 2, .string ⟨#[]⟩, .int .i64 0] 40)).ownsRow W.heap.size 40 4 (.slice none 0 0) 0 []) := Lib.hid (World.ownsRow_nil _ _ _ _)
            have HNew : Hid (∀ (j : Nat) (u : Value), (ndCells ⟨p0 :: p, 2, [], 0⟩)[j]? = some u → (w6.alloc (.cells #[.string ⟨(p0 :: p).toArray⟩, .int .i64 2, .string ⟨#[]⟩, .int .i64 0] 40)).cell? ((⟨w6.heap.size, 0, none⟩ : Addr).add j) = some u) := Lib.hid (four_new _ _ rfl ⟨p0 :: p, 2, [], 0⟩ _ _ rfl rfl _)
            have HBa := Lib.hid (B6.out.alloc B6.out.size (.cells #[.string ⟨(p0 :: p).toArray⟩, .int .i64 2, .string ⟨#[]⟩, .int .i64 0] 40))
            have HBWa := Lib.hid (BW6.out.alloc BW6.out.size (.cells #[.string ⟨(p0 :: p).toArray⟩, .int .i64 2, .string ⟨#[]⟩, .int .i64 0] 40))
            repeat (first
              | (at_builtin; refine wpList_append_own _ rfl _ _ 22 rfl W.heap.size 40 i0 (ndVal zeroN) 4 48 Tryz.underlying22 hi hz0 hz1 hz2 rfl (by decide) _ _ _ rfl HNil.out ⟨w6.heap.size, 0, none⟩ 1 1 (ndCells ⟨p0 :: p, 2, [], 0⟩) rfl rfl HNew.out (nd_one _) (by decide) (by decide) HBWa.out.size ?_; intro vX wX hoX hgX _; have OX : Hid (wX.ownsRow W.heap.size 40 4 vX ([⟨p0 :: p, 2, [], 0⟩] : List Nd).length (nodesC [⟨p0 :: p, 2, [], 0⟩])) := Lib.hid (by simpa [nodesC] using hoX); have BX := Lib.hid (HBa.out.grown hgX HBa.out.size (fun j hj => by cases hj)); have BWX := Lib.hid (HBWa.out.grown hgX HBWa.out.size (fun j hj => by cases hj)); clear hoX hgX)
              | go_skip | go_guarded | go_step | go_upon)
            repeat (first | go_skip | go_guarded | go_step | go_upon)
            refine (NO.out wX BX.out).mono ?_
            rintro r w7 ⟨vm, rfl, om, hb7⟩
            simp only []
            obtain ⟨u7, d7, rfl, l7⟩ := lay_texts om
            have B7 := Lib.hid (BX.out.trans (hb7.mono BX.out.size))
            have BX7 := Lib.hid hb7
            have T7 := Lib.hid l7
            clear om hb7 l7
            repeat (first | go_skip | go_guarded | go_step | go_upon)
            refine (NA.out w7 B7.out).mono ?_
            rintro r w8 ⟨vm, rfl, om, hb8⟩
            simp only []
            obtain ⟨u8, d8, rfl, l8⟩ := lay_texts om
            have B8 := Lib.hid (B7.out.trans (hb8.mono B7.out.size))
            have BX8 := Lib.hid (BX7.out.trans (hb8.mono BX7.out.size))
            have T7 := Lib.hid (T7.out.below hb8)
            have T8 := Lib.hid l8
            clear om hb8 l8
            repeat (first | go_skip | go_guarded | go_step | go_upon)
            refine (NB.out w8 B8.out).mono ?_
            rintro r w9 ⟨vm, rfl, om, hb9⟩
            simp only []
            obtain ⟨u9, d9, rfl, l9⟩ := lay_texts om
            have B9 := Lib.hid (B8.out.trans (hb9.mono B8.out.size))
            have BX9 := Lib.hid (BX8.out.trans (hb9.mono BX8.out.size))
            have T7 := Lib.hid (T7.out.below hb9)
            have T8 := Lib.hid (T8.out.below hb9)
            have T9 := Lib.hid l9
            clear om hb9 l9
            repeat (first | go_skip | go_guarded | go_step | go_upon)
            refine (CN.out w9 u7 u8 u9 d7 d8 d9 T7.out T8.out T9.out).mono ?_
            rintro r wn ⟨vm, rfl, om, hbn⟩
            simp only []
            obtain ⟨un, dn, rfl, ln⟩ := lay_t om
            have B10 := Lib.hid (B9.out.trans (hbn.mono B9.out.size))
            have BX10 := Lib.hid (BX9.out.trans (hbn.mono BX9.out.size))
            have BW10 := Lib.hid (BWX.out.trans (BX10.out.mono BWX.out.size))
            have TN := Lib.hid ln
            obtain ⟨nk, hnkk⟩ : ∃ n, K.length = n := ⟨_, rfl⟩
            have HNk := Lib.hid hnkk
            rw [hnkk] at hnk ⊢
            have hOn := owns_below OX.out BX10.out
            have h0 : Hid (wn.ownsRow W.heap.size 40 4 vX (([⟨p0 :: p, 2, [], 0⟩] : List Nd) ++ (K.take 0).flatMap IF).length (nodesC (([⟨p0 :: p, 2, [], 0⟩] : List Nd) ++ (K.take 0).flatMap IF))) := Lib.hid (by
              rw [List.take_zero, List.flatMap_nil, List.append_nil]
              exact hOn)
            clear om hbn ln hnkk hOn
            repeat (first | go_skip | go_guarded | go_step | go_upon)
            go_loopw [11, 13] (fun s11 s13 wr => ∃ i : Nat, s13 = .int .i64 i ∧ i ≤ nk ∧ wr.ownsRow W.heap.size 40 4 s11 (([⟨p0 :: p, 2, [], 0⟩] : List Nd) ++ (K.take i).flatMap IF).length (nodesC (([⟨p0 :: p, 2, [], 0⟩] : List Nd) ++ (K.take i).flatMap IF)) ∧ Below W.heap.size W wr ∧ KeepT wn wr) (fun _ s13 _ => nk - (Go.RowKit.intOf s13).toNat)
            case atStart => exact ⟨0, rfl, Nat.zero_le _, h0.out, BW10.out, KeepT.refl _⟩
            case round =>
              obtain ⟨i, rfl, hi2, hoi, hbi, hki⟩ := hrel
              have HOi := Lib.hid hoi
              have HBi := Lib.hid hbi
              have HKi := Lib.hid hki
              clear hoi hbi hki
              by_cases hlt : i < nk
              · have hiz : (i : Int) < nk := by omega
                obtain ⟨gk, ck, fk, rfl, hgk, hck⟩ := (TN.out.keep HKi.out) (by rw [HNk.out]; omega)
                obtain ⟨k, hk⟩ : ∃ k, K[i]? = some k := ⟨K[i]'(by rw [HNk.out]; exact hlt), List.getElem?_eq_getElem _⟩
                have kc := hck i k hk
                have hkm := List.mem_of_getElem? hk
                have hfl : (K.take (i + 1)).flatMap IF = (K.take i).flatMap IF ++ IF k := by
                  rw [List.take_add_one, hk, Option.toList_some, List.flatMap_append]
                  simp
                have hle : Hid ((([⟨p0 :: p, 2, [], 0⟩] : List Nd) ++ (K.take i).flatMap IF).length + (IF k).length ≤ 6006) := Lib.hid (by
                  have h := HLen.out
                  have h2 : (rl (p0 :: p) Q).length ≤ Q.length := by
                    unfold rl
                    split
                    · rw [List.length_drop]; omega
                    · exact Nat.le_refl _
                  rw [HQ.out] at h2
                  have e : K.flatMap IF = (K.take (i + 1)).flatMap IF ++ (K.drop (i + 1)).flatMap IF := by
                    rw [← List.flatMap_append, List.take_append_drop]
                  rw [e, hfl] at h2
                  simp only [List.length_append] at h2 ⊢
                  omega)
                have CB2 := HBel.out k hkm wr
                have CI2 : Hid (∀ X, Below w.heap.size w X → _) := Lib.hid (fun X hX => IH.out k hkm rfl X hX)
                have HFl := Lib.hid hfl
                unfold txt at kc CB2 CI2
                clear hck hk hkm hfl hgk
                have CB2 := Lib.hid CB2
                repeat (first | go_skip | go_guarded | go_step | go_upon)
                refine CB2.out.mono ?_
                rintro r wb ⟨rfl, hbb⟩
                simp only []
                have HBb := Lib.hid hbb
                have Bwb := Lib.hid (HW.out.trans ((HBi.out.trans (hbb.mono HBi.out.size)).mono HW.out.size))
                clear hbb
                repeat (first | go_skip | go_guarded | go_step | go_upon)
                refine (CI2.out wb Bwb.out).mono ?_
                rintro r wc ⟨v2, rfl, o2, hb2⟩
                simp only []
                obtain ⟨u2, d2, rfl, l2⟩ := lay_own o2
                have hbc := HBb.out.trans (hb2.mono HBb.out.size)
                have hOc := owns_below HOi.out hbc
                have hBc := HBi.out.trans (hbc.mono HBi.out.size)
                obtain ⟨nlen, hnlen⟩ : ∃ n, (IF k).length = n := ⟨_, rfl⟩
                obtain ⟨v', w', hrun, ho', hg'⟩ := app_nodes wc W.heap.size u2 d2 nlen _ (IF k) (([⟨p0 :: p, 2, [], 0⟩] : List Nd) ++ (K.take i).flatMap IF) _ l2 hOc hBc.size (by rw [← hnlen]; exact hle.out) hnlen
                have HO2 : Hid (w'.ownsRow W.heap.size 40 4 v' (([⟨p0 :: p, 2, [], 0⟩] : List Nd) ++ (K.take (i + 1)).flatMap IF).length (nodesC (([⟨p0 :: p, 2, [], 0⟩] : List Nd) ++ (K.take (i + 1)).flatMap IF))) := Lib.hid (by
                  rw [HFl.out, ← List.append_assoc, List.length_append, hnlen]
                  exact ho')
                have HB2 := Lib.hid (hBc.grown hg' hBc.size (fun j hj => (hOc.lt j hj).1))
                have HK2 := Lib.hid (HKi.out.trans ((KeepT.below hbc).trans (KeepT.grown hg' hOc (by decide))))
                rw [hnlen]
                clear o2 hb2 l2 hbc hOc hBc ho' hg' hnlen
                repeat (first | (at_builtin; refine step_app_l rfl (.tmp 62) (.tmp 72) 22 22 rfl u11 (.slice u2 nlen d2) rfl rfl hrun ?_; clear hrun) | go_skip | go_guarded | go_step | go_upon)
                exact ⟨⟨i + 1, by go_num, by omega, HO2.out, HB2.out, HK2.out⟩, by simp [Go.RowKit.intOf]; omega⟩
              · obtain rfl : nk = i := by omega
                have HOe : Hid (wr.ownsRow W.heap.size 40 4 u11 (rl (p0 :: p) Q).length (nodesC (rl (p0 :: p) Q))) := Lib.hid (by
                  have h := HOi.out
                  rw [List.take_of_length_le (by rw [HNk.out]; exact Nat.le_refl _)] at h
                  rw [HQ.out]
                  exact h)
                obtain ⟨aE, cE, rfl, -⟩ := owns_view HOi.out
                repeat (first | go_skip | go_guarded | go_step | go_upon)
                go_ret
                exact ⟨_, rfl, HOe.out, HBi.out⟩
end
end RC
end Go.Proofs.YtmpmmebmhffaeaaGreatDoor
end
section
/- Layer 12: the document's Agree. -/
namespace Go.Proofs.YtmpmmebmhffaeaaGreatDoor
open Go.RowKit Go.Lib Go.Maps Go.BigFrame Go.Sort
namespace RC
open OM TP TM TR TG TW NP

section
variable {xo ta tb : List Nd} {ao aa ab : Option Addr} {co ca cb : Nat} {w : World}
set_option maxRecDepth 100000 in
set_option maxHeartbeats 3200000 in
theorem ragreeAll_any (lo : Lst w ao co xo) (la : Lst w aa ca ta) (lb : Lst w ab cb tb) :
    Calls Tryz.prog 9 #[.slice ao xo.length co, .slice aa ta.length ca, .slice ab tb.length cb] w fun r w' => ∃ u c, r = .returned (.tuple #[.slice u (agL xo ta tb).length c, .int .i64 (erL xo ta tb)]) ∧ LayN w' u (agL xo ta tb) ∧ Below w.heap.size w w' := by
  have CT := rtrees_any lo la lb
  have CL : Hid (all3 xo ta tb = true → ∀ W, Below w.heap.size w W → Calls Tryz.prog 19 #[.slice ao xo.length co, .slice aa ta.length ca, .slice ab tb.length cb, txt []] W (AtPost ((agreedL (valP xo []) (valP ta []) (valP tb [])).drop 1) W)) := Lib.hid (fun h W hW => by
    obtain ⟨h1, h2, h3⟩ := all3_iff h
    exact ragree_any h1 h2 h3 lo la lb _ [] (.inl rfl) (Nat.lt_succ_self _) W hW)
  unfold agL erL
  obtain ⟨d, hd⟩ : ∃ d, all3 xo ta tb = d := ⟨_, rfl⟩
  rw [hd] at CT CL ⊢
  obtain ⟨Q, hQ⟩ : ∃ Q, (agreedL (valP xo []) (valP ta []) (valP tb [])).drop 1 = Q := ⟨_, rfl⟩
  rw [hQ] at CL ⊢
  obtain ⟨no, hno⟩ : ∃ n, xo.length = n := ⟨_, rfl⟩
  obtain ⟨na, hna⟩ : ∃ n, ta.length = n := ⟨_, rfl⟩
  obtain ⟨nb, hnb⟩ : ∃ n, tb.length = n := ⟨_, rfl⟩
  rw [hno, hna, hnb] at CT CL ⊢
  unfold txt at CL
  have CT := Lib.hid CT
  clear lo la lb hno hna hnb hd hQ
  go_enter Tryz.func9, Tryz.ntmps9
  repeat (first | go_skip | go_guarded | go_step | go_upon)
  refine CT.out.mono ?_
  rintro r w1 ⟨rfl, hb1⟩
  simp only []
  have B1 := Lib.hid hb1
  clear hb1
  cases d with
  | false =>
    repeat (first | go_skip | go_guarded | go_step | go_upon)
    go_ret2
    exact ⟨none, 0, rfl, LayN.nil _ _, B1.out⟩
  | true =>
    have CL := Lib.hid (CL.out rfl)
    repeat (first | go_skip | go_guarded | go_step | go_upon)
    refine (CL.out _ B1.out).mono ?_
    rintro r w2 ⟨v, rfl, ho, hb2⟩
    simp only []
    obtain ⟨u, c, rfl, hl⟩ := lay_own ho
    have B2 := Lib.hid (B1.out.trans (hb2.mono B1.out.size))
    have L2 := Lib.hid hl
    clear ho hb2 hl
    repeat (first | go_skip | go_guarded | go_step | go_upon)
    go_ret2
    exact ⟨u, c, rfl, L2.out, B2.out⟩
end
end RC
end Go.Proofs.YtmpmmebmhffaeaaGreatDoor
end
