/- Layer 12: the document's look (its walk), trees, Items. -/
import Derived.Test.YtmpmmebmhffaeaaGreatDoorQRtL
set_option linter.all false
set_option maxRecDepth 100000
set_option maxHeartbeats 25600000
namespace Go.Proofs.YtmpmmebmhffaeaaGreatDoor
open Go.RowKit Go.Lib Go.Maps Go.BigFrame Go.Sort
namespace RC
open OM TP TM TR TG TW NP

/-- A list of nodes as it comes in, of bounded texts. -/
structure Lst (W : World) (ao : Option Addr) (c : Nat) (t : List Nd) : Prop where
  lay : LayN W ao t
  no : ao = none → c = 0
  cap : t.length ≤ c
  max : t.length ≤ maxLen
  small : SmallG t
theorem Lst.below {W W' : World} {ao : Option Addr} {c : Nat} {t : List Nd} (h : Lst W ao c t) (hb : Below W.heap.size W W') : Lst W' ao c t := ⟨h.lay.below hb, h.no, h.cap, h.max, h.small⟩
def LookPost (base : Nat) (w W : World) (L : List It) (r : Ending) (W' : World) : Prop :=
  ∃ v, r = .returned v ∧ W'.ownsRow base 43 2 v L.length (itC L) ∧ Below w.heap.size w W' ∧ KeepT W W' ∧ base ≤ W'.heap.size
theorem at_len {t : List Nd} (ht : Tree t) (p : List UInt8) : (atL t p).length ≤ 1001 := by
  have hl := ht.len
  unfold atL
  rw [if_pos ((tree_iff t).2 ht)]
  split
  · rw [List.length_cons]; omega
  · rw [List.length_map]
    have := List.length_filter_le (fun n : Nd => withinL n.path p) t
    omega
theorem look_done {base : Nat} {w W wX w9 : World} {v v9 : Value} {L0 : List It} {p : List UInt8} {n : Int} {c : Array Value} (hbase : w.heap.size ≤ base) (B : Below w.heap.size w wX) (K : KeepT W wX) (hbx : base ≤ wX.heap.size)
    (HOa : (wX.alloc (.cells c 43)).ownsRow base 43 2 v L0.length (itC L0)) (ho9 : w9.ownsRow base 43 2 v9 (L0.length + 1) (itC L0 ++ [txt p, .int .i64 n])) (hg9 : (wX.alloc (.cells c 43)).grownBy w9 v.ownBlock) : LookPost base w W (L0 ++ [(p, n)]) (.returned v9) w9 := by
  have hba := B.alloc B.size (.cells c 43)
  refine ⟨v9, rfl, ?_, hba.grown hg9 hba.size (fun j hj => Nat.le_trans hbase (HOa.lt j hj).1), K.trans ((KeepT.below ((Below.refl _ _).alloc (Nat.le_refl _) (.cells c 43))).trans (KeepT.grown hg9 HOa (by decide))), ?_⟩
  · rw [List.length_append, itC_app]
    exact ho9
  · have := hg9.size
    rw [World.size_alloc] at this
    omega
section
variable {xo ta tb : List Nd} {ao aa ab : Option Addr} {co ca cb : Nat} {w : World}
set_option maxRecDepth 100000 in
set_option maxHeartbeats 12800000 in
theorem look_any (ho : Tree xo) (ha : Tree ta) (hb : Tree tb) (lo : Lst w ao co xo) (la : Lst w aa ca ta) (lb : Lst w ab cb tb) (base : Nat) (hbase : w.heap.size ≤ base) : ∀ (N : Nat) (p : List UInt8), (p = [] ∨ pathL p = true) → (valP ta p).length < N → ∀ (W : World) (v : Value) (L0 : List It), Below w.heap.size w W → W.ownsRow base 43 2 v L0.length (itC L0) → base ≤ W.heap.size → (L0 ++ itemsL p (valP xo p) (valP ta p) (valP tb p)).length ≤ 3003 →
    Calls Tryz.prog 17 #[.slice ao xo.length co, .slice aa ta.length ca, .slice ab tb.length cb, txt p, v] W (LookPost base w W (L0 ++ itemsL p (valP xo p) (valP ta p) (valP tb p)))
  | 0, _, _, hN, _, _, _, _, _, _, _ => absurd hN (Nat.not_lt_zero _)
  | N + 1, p, hp, hN, W, v, L0, hW, hown, hbW, hlen => by
    have hps : p.length ≤ 1048576 := by
      rcases hp with rfl | hp
      · simp
      · exact small_path hp
    have CO : Hid (∀ X, Below w.heap.size w X → Calls Tryz.prog 29 #[.slice ao xo.length co, txt p] X (AtPost (atL xo p) X)) := Lib.hid (fun X hX => rvalue_any ao co xo p X (lo.lay.below hX) lo.small lo.max hps lo.no)
    have CA : Hid (∀ X, Below w.heap.size w X → Calls Tryz.prog 29 #[.slice aa ta.length ca, txt p] X (AtPost (atL ta p) X)) := Lib.hid (fun X hX => rvalue_any aa ca ta p X (la.lay.below hX) la.small la.max hps la.no)
    have CB : Hid (∀ X, Below w.heap.size w X → Calls Tryz.prog 29 #[.slice ab tb.length cb, txt p] X (AtPost (atL tb p) X)) := Lib.hid (fun X hX => rvalue_any ab cb tb p X (lb.lay.below hX) lb.small lb.max hps lb.no)
    have NO : Hid (∀ X, Below w.heap.size w X → Calls Tryz.prog 32 #[.slice ao xo.length co, txt p] X (NamesPost xo p X)) := Lib.hid (fun X hX => rnames_any ao co xo p X (lo.lay.below hX) lo.small lo.max)
    have NA : Hid (∀ X, Below w.heap.size w X → Calls Tryz.prog 32 #[.slice aa ta.length ca, txt p] X (NamesPost ta p X)) := Lib.hid (fun X hX => rnames_any aa ca ta p X (la.lay.below hX) la.small la.max)
    have NB : Hid (∀ X, Below w.heap.size w X → Calls Tryz.prog 32 #[.slice ab tb.length cb, txt p] X (NamesPost tb p X)) := Lib.hid (fun X hX => rnames_any ab cb tb p X (lb.lay.below hX) lb.small lb.max)
    have IH : Hid (∀ k ∈ namesK (valP xo p) (valP ta p) (valP tb p), dirV (valP ta p) = true → ∀ (X : World) (u : Value) (L1 : List It), Below w.heap.size w X → X.ownsRow base 43 2 u L1.length (itC L1) → base ≤ X.heap.size → (L1 ++ itemsL (belowP p k) (subL (valP xo p) k) (subL (valP ta p) k) (subL (valP tb p) k)).length ≤ 3003 →
        Calls Tryz.prog 17 #[.slice ao xo.length co, .slice aa ta.length ca, .slice ab tb.length cb, txt (belowP p k), u] X (LookPost base w X (L1 ++ itemsL (belowP p k) (subL (valP xo p) k) (subL (valP ta p) k) (subL (valP tb p) k)))) := Lib.hid (fun k hk hd X u L1 hX ho1 hb1 hl1 => by
      obtain ⟨n1, n2, n3, n4, -⟩ := name_ok ho ha hb hp hk
      have hne : valP ta p ≠ [] := fun e => by rw [e] at hd; cases hd
      have hl := sub_len (valP ta p) k hne
      rw [n3] at hl
      rw [n2, n3, n4] at hl1 ⊢
      exact look_any ho ha hb lo la lb base hbase N (belowP p k) (.inr n1) (by omega) X u L1 hX ho1 hb1 hl1)
    have HBel : Hid (∀ k ∈ namesK (valP xo p) (valP ta p) (valP tb p), ∀ X, Calls Tryz.prog 33 #[txt p, txt k] X fun r w' => r = .returned (txt (belowP p k)) ∧ Below X.heap.size X w') := Lib.hid (fun k hk X => by
      obtain ⟨n1, -⟩ := name_ok ho ha hb hp hk
      have hks : k.length ≤ 1048576 := by
        have h4 := small_path n1
        have h5 : k.length ≤ (belowP p k).length := by
          rcases hp with rfl | hp
          · rw [below_nil]; exact Nat.le_refl _
          · rw [below_ne hp, List.length_append, List.length_cons]; omega
        omega
      have := rbelow_any p k X hps hks
      have e : (if p = [] then k else p ++ 47 :: k) = belowP p k := by
        rcases hp with rfl | hp
        · rw [if_pos rfl, below_nil]
        · rw [if_neg (path_ne hp), below_ne hp]
      rw [e] at this
      exact this)
    have hAl := at_len ho p
    have hBl := at_len ha p
    have hCl := at_len hb p
    have S1 : Hid (∀ X (u1 u2 : Option Addr) (d1 d2 : Nat), LayN X u1 (atL ta p) → LayN X u2 (atL tb p) → Calls Tryz.prog 11 #[.slice u1 (atL ta p).length d1, .slice u2 (atL tb p).length d2] X fun r w' => r = .returned (.bool (decide (valP ta p = valP tb p))) ∧ Below X.heap.size X w') := Lib.hid (fun X u1 u2 d1 d2 h1 h2 => by
      have := rsame_any u1 u2 d1 d2 _ _ X h1 h2 (by unfold maxLen; omega) (by unfold maxLen; omega)
      rw [decide_eq_decide.2 (at_val ha hb p)] at this
      exact this)
    have S2 : Hid (∀ X (u1 u2 : Option Addr) (d1 d2 : Nat), LayN X u1 (atL xo p) → LayN X u2 (atL ta p) → Calls Tryz.prog 11 #[.slice u1 (atL xo p).length d1, .slice u2 (atL ta p).length d2] X fun r w' => r = .returned (.bool (decide (valP xo p = valP ta p))) ∧ Below X.heap.size X w') := Lib.hid (fun X u1 u2 d1 d2 h1 h2 => by
      have := rsame_any u1 u2 d1 d2 _ _ X h1 h2 (by unfold maxLen; omega) (by unfold maxLen; omega)
      rw [decide_eq_decide.2 (at_val ho ha p)] at this
      exact this)
    have S3 : Hid (∀ X (u1 u2 : Option Addr) (d1 d2 : Nat), LayN X u1 (atL xo p) → LayN X u2 (atL tb p) → Calls Tryz.prog 11 #[.slice u1 (atL xo p).length d1, .slice u2 (atL tb p).length d2] X fun r w' => r = .returned (.bool (decide (valP xo p = valP tb p))) ∧ Below X.heap.size X w') := Lib.hid (fun X u1 u2 d1 d2 h1 h2 => by
      have := rsame_any u1 u2 d1 d2 _ _ X h1 h2 (by unfold maxLen; omega) (by unfold maxLen; omega)
      rw [decide_eq_decide.2 (at_val ho hb p)] at this
      exact this)
    have D1 : Hid (∀ X (u1 : Option Addr) (d1 : Nat), LayN X u1 (atL ta p) → Calls Tryz.prog 30 #[.slice u1 (atL ta p).length d1] X fun r w' => r = .returned (.bool (dirV (valP ta p))) ∧ Below X.heap.size X w') := Lib.hid (fun X u1 d1 h1 => by
      have := rdir12_any u1 d1 _ X h1 (by omega)
      rw [dir_at ha p] at this
      exact this)
    have D2 : Hid (∀ X (u1 : Option Addr) (d1 : Nat), LayN X u1 (atL tb p) → Calls Tryz.prog 30 #[.slice u1 (atL tb p).length d1] X fun r w' => r = .returned (.bool (dirV (valP tb p))) ∧ Below X.heap.size X w') := Lib.hid (fun X u1 d1 h1 => by
      have := rdir12_any u1 d1 _ X h1 (by omega)
      rw [dir_at hb p] at this
      exact this)
    have hnl := names_le ho p
    have hnl2 := names_le ha p
    have hnl3 := names_le hb p
    have CN : Hid (∀ X (u1 u2 u3 : Option Addr) (d1 d2 d3 : Nat), LayS X u1 (namesL xo p) → LayS X u2 (namesL ta p) → LayS X u3 (namesL tb p) → Calls Tryz.prog 31 #[.slice u1 (namesL xo p).length d1, .slice u2 (namesL ta p).length d2, .slice u3 (namesL tb p).length d3] X fun r w' => ∃ v, r = .returned v ∧ w'.ownsRow X.heap.size 9 1 v (namesK (valP xo p) (valP ta p) (valP tb p)).length ((namesK (valP xo p) (valP ta p) (valP tb p)).map txt) ∧ Below X.heap.size X w') := Lib.hid (fun X u1 u2 u3 d1 d2 d3 h1 h2 h3 => by
      have := rnames12_any u1 u2 u3 d1 d2 d3 _ _ _ X h1 h2 h3 (by omega) (by omega) (by omega)
      rw [names_eq ho ha hb hp] at this
      exact this)
    have hst := items_step p (valP xo p) (valP ta p) (valP tb p)
    have hnk : (namesK (valP xo p) (valP ta p) (valP tb p)).length ≤ 3003 := by
      have := ordK_len (namesL xo p ++ namesL ta p ++ namesL tb p)
      rw [names_eq ho ha hb hp] at this
      simp only [List.length_append] at this
      omega
    unfold NamesPost at NO NA NB
    unfold AtPost at CO CA CB
    generalize atL xo p = Vo at CO S2 S3
    generalize atL ta p = Va at CA S1 S2 D1
    generalize atL tb p = Vb at CB S1 S3 D2
    generalize namesL xo p = Mo at NO CN
    generalize namesL ta p = Ma at NA CN
    generalize namesL tb p = Mb at NB CN
    obtain ⟨IF, hIF⟩ : ∃ IF : List UInt8 → List It, ∀ k, itemsL (belowP p k) (subL (valP xo p) k) (subL (valP ta p) k) (subL (valP tb p) k) = IF k := ⟨_, fun _ => rfl⟩
    simp only [hIF] at IH hst
    obtain ⟨Q, hQ⟩ : ∃ Q, itemsL p (valP xo p) (valP ta p) (valP tb p) = Q := ⟨_, rfl⟩
    rw [hQ] at hst hlen ⊢
    generalize namesK (valP xo p) (valP ta p) (valP tb p) = K at IH HBel CN hst hnk
    have eX : decide (valP ta p = valP tb p) = true ↔ valP ta p = valP tb p := by simp
    generalize valP xo p = qo at *
    generalize valP ta p = qa at *
    generalize valP tb p = qb at *
    obtain ⟨no, hno⟩ : ∃ n, xo.length = n := ⟨_, rfl⟩
    obtain ⟨na, hna⟩ : ∃ n, ta.length = n := ⟨_, rfl⟩
    obtain ⟨nb, hnb⟩ : ∃ n, tb.length = n := ⟨_, rfl⟩
    rw [hno] at CO NO IH ⊢
    rw [hna] at CA NA IH ⊢
    rw [hnb] at CB NB IH ⊢
    obtain ⟨mo, hmo⟩ : ∃ n, Vo.length = n := ⟨_, rfl⟩
    obtain ⟨ma, hma⟩ : ∃ n, Va.length = n := ⟨_, rfl⟩
    obtain ⟨mb, hmb⟩ : ∃ n, Vb.length = n := ⟨_, rfl⟩
    rw [hmo] at S2 S3
    rw [hma] at S1 S2 D1
    rw [hmb] at S1 S3 D2
    have HW := Lib.hid hW
    have HO := Lib.hid hown
    have HBW := Lib.hid hbW
    have HST := Lib.hid hst
    have HLen := Lib.hid hlen
    have HMo := Lib.hid hmo
    have HMa := Lib.hid hma
    have HMb := Lib.hid hmb
    unfold txt at CO CA CB NO NA NB
    clear hps hAl hBl hCl hnl hnl2 hnl3 hst hIF hQ eX hno hna hnb hmo hma hmb hW hown hbW hlen ho ha hb lo la lb hN hp look_any
    unfold txt
    go_enter Tryz.func17, Tryz.ntmps17
    repeat (first | go_skip | go_guarded | go_step | go_upon)
    refine (CO.out W HW.out).mono ?_
    rintro r w1 ⟨vo, rfl, o1, hb1⟩
    simp only []
    obtain ⟨uo, do_, rfl, l1⟩ := lay_own o1
    rw [HMo.out]
    have B1 := Lib.hid (HW.out.trans (hb1.mono HW.out.size))
    have K1 := Lib.hid (KeepT.below hb1)
    have BW1 := Lib.hid hb1
    have L1 := Lib.hid l1
    clear o1 hb1 l1
    repeat (first | go_skip | go_guarded | go_step | go_upon)
    refine (CA.out w1 B1.out).mono ?_
    rintro r w2 ⟨va, rfl, o2, hb2⟩
    simp only []
    obtain ⟨ua, da, rfl, l2⟩ := lay_own o2
    rw [HMa.out]
    have B2 := Lib.hid (B1.out.trans (hb2.mono B1.out.size))
    have BW2 := Lib.hid (BW1.out.trans (hb2.mono BW1.out.size))
    have L1 := Lib.hid (L1.out.below hb2)
    have L2 := Lib.hid l2
    clear o2 hb2 l2
    repeat (first | go_skip | go_guarded | go_step | go_upon)
    refine (CB.out w2 B2.out).mono ?_
    rintro r w3 ⟨vb, rfl, o3, hb3⟩
    simp only []
    obtain ⟨ub, db, rfl, l3⟩ := lay_own o3
    rw [HMb.out]
    have B3 := Lib.hid (B2.out.trans (hb3.mono B2.out.size))
    have BW3 := Lib.hid (BW2.out.trans (hb3.mono BW2.out.size))
    have L1 := Lib.hid (L1.out.below hb3)
    have L2 := Lib.hid (L2.out.below hb3)
    have L3 := Lib.hid l3
    clear o3 hb3 l3
    repeat (first | go_skip | go_guarded | go_step | go_upon)
    refine (S1.out w3 ua ub da db L2.out L3.out).mono ?_
    rintro r w4 ⟨rfl, hb4⟩
    simp only []
    have B4 := Lib.hid (B3.out.trans (hb4.mono B3.out.size))
    have BW4 := Lib.hid (BW3.out.trans (hb4.mono BW3.out.size))
    have L1 := Lib.hid (L1.out.below hb4)
    have L2 := Lib.hid (L2.out.below hb4)
    have L3 := Lib.hid (L3.out.below hb4)
    clear hb4 K1 BW1 BW2 BW3 B1 B2 B3
    obtain ⟨i0, hi, hz0, hz1, hz2⟩ := info_parts infoIt
    by_cases h1 : qa = qb
    · rw [decide_eq_true h1]
      repeat (first | go_skip | go_guarded | go_step | go_upon)
      refine (S2.out w4 uo ua do_ da L1.out L2.out).mono ?_
      rintro r w5 ⟨rfl, hb5⟩
      simp only []
      have B5 := Lib.hid (B4.out.trans (hb5.mono B4.out.size))
      have BW5 := Lib.hid (BW4.out.trans (hb5.mono BW4.out.size))
      have L1 := Lib.hid (L1.out.below hb5)
      have L2 := Lib.hid (L2.out.below hb5)
      have L3 := Lib.hid (L3.out.below hb5)
      clear hb5
      by_cases h2 : qo = qa
      · rw [decide_eq_true h2]
        have HQ : Hid (Q = []) := Lib.hid (by rw [HST.out]; simp [h1, h2])
        have HOe := Lib.hid (owns_below HO.out BW5.out)
        repeat (first | go_skip | go_guarded | go_step | go_upon)
        go_ret
        rw [HQ.out, List.append_nil]
        exact ⟨v, rfl, HOe.out, B5.out, KeepT.below BW5.out, Nat.le_trans HBW.out BW5.out.size⟩
      · rw [decide_eq_false h2]
        have HQ : Hid (Q = [(p, 1)]) := Lib.hid (by rw [HST.out, if_pos h1, if_neg h2])
        have HOa := Lib.hid ((owns_below HO.out BW5.out).alloc (.cells #[.string ⟨p.toArray⟩, .int .i64 1] 43))
        have HBX : Hid (base ≤ w5.heap.size) := Lib.hid (Nat.le_trans HBW.out BW5.out.size)
        have HL0 : Hid (L0.length + 1 ≤ 3003) := Lib.hid (by have := HLen.out; rw [HQ.out, List.length_append] at this; simpa using this)
        repeat (first | (at_builtin; refine wpList_append_own _ rfl _ _ 27 rfl base 43 i0 (.agg #[.string ⟨#[]⟩, .int .i64 0]) 2 24 Tryz.underlying27 hi hz0 hz1 hz2 rfl (by decide) _ _ _ rfl HOa.out ⟨w5.heap.size, 0, none⟩ 1 1 [.string ⟨p.toArray⟩, .int .i64 1] rfl rfl (two_it w5 p 1) (by simp [Value.oneCell']) (by have := HL0.out; unfold maxLen; omega) (by have := HL0.out; omega) (by rw [World.size_alloc]; have := HBX.out; omega) ?_; intro v9 w9 ho9 hg9 _; have HD := Lib.hid (look_done (W := W) hbase B5.out (KeepT.below BW5.out) HBX.out HOa.out ho9 hg9); clear ho9 hg9) | go_skip | go_guarded | go_step | go_upon)
        go_ret
        rw [HQ.out]
        exact HD.out
    · rw [decide_eq_false h1]
      repeat (first | go_skip | go_guarded | go_step | go_upon)
      refine (D1.out w4 ua da L2.out).mono ?_
      rintro r w5 ⟨rfl, hb5⟩
      simp only []
      have B5 := Lib.hid (B4.out.trans (hb5.mono B4.out.size))
      have BW5 := Lib.hid (BW4.out.trans (hb5.mono BW4.out.size))
      have L1 := Lib.hid (L1.out.below hb5)
      have L2 := Lib.hid (L2.out.below hb5)
      have L3 := Lib.hid (L3.out.below hb5)
      clear hb5
      cases hda : dirV qa with
      | true =>
        rw [hda] at IH
        repeat (first | go_skip | go_guarded | go_step | go_upon)
        refine (D2.out w5 ub db L3.out).mono ?_
        rintro r w6 ⟨rfl, hb5⟩
        simp only []
        have B6 := Lib.hid (B5.out.trans (hb5.mono B5.out.size))
        have BW6 := Lib.hid (BW5.out.trans (hb5.mono BW5.out.size))
        have L1 := Lib.hid (L1.out.below hb5)
        have L2 := Lib.hid (L2.out.below hb5)
        have L3 := Lib.hid (L3.out.below hb5)
        clear hb5
        cases hdb : dirV qb with
        | true =>
          have HQ : Hid (Q = K.flatMap IF) := Lib.hid (by rw [HST.out, if_neg h1, if_pos ⟨hda, hdb⟩])
          have IH := Lib.hid (fun k hk => IH.out k hk rfl)
          repeat (first | go_skip | go_guarded | go_step | go_upon)
          refine (NO.out w6 B6.out).mono ?_
          rintro r w7 ⟨vm, rfl, om, hb7⟩
          simp only []
          obtain ⟨u7, d7, rfl, l7⟩ := lay_texts om
          have B7 := Lib.hid (B6.out.trans (hb7.mono B6.out.size))
          have BW7 := Lib.hid (BW6.out.trans (hb7.mono BW6.out.size))
          have T7 := Lib.hid l7
          clear om hb7 l7
          repeat (first | go_skip | go_guarded | go_step | go_upon)
          refine (NA.out w7 B7.out).mono ?_
          rintro r w8 ⟨vm, rfl, om, hb8⟩
          simp only []
          obtain ⟨u8, d8, rfl, l8⟩ := lay_texts om
          have B8 := Lib.hid (B7.out.trans (hb8.mono B7.out.size))
          have BW8 := Lib.hid (BW7.out.trans (hb8.mono BW7.out.size))
          have T7 := Lib.hid (T7.out.below hb8)
          have T8 := Lib.hid l8
          clear om hb8 l8
          repeat (first | go_skip | go_guarded | go_step | go_upon)
          refine (NB.out w8 B8.out).mono ?_
          rintro r w9 ⟨vm, rfl, om, hb9⟩
          simp only []
          obtain ⟨u9, d9, rfl, l9⟩ := lay_texts om
          have B9 := Lib.hid (B8.out.trans (hb9.mono B8.out.size))
          have BW9 := Lib.hid (BW8.out.trans (hb9.mono BW8.out.size))
          have T7 := Lib.hid (T7.out.below hb9)
          have T8 := Lib.hid (T8.out.below hb9)
          have T9 := Lib.hid l9
          clear om hb9 l9
          repeat (first | go_skip | go_guarded | go_step | go_upon)
          refine (CN.out w9 u7 u8 u9 d7 d8 d9 T7.out T8.out T9.out).mono ?_
          rintro r wn ⟨vm, rfl, om, hbn⟩
          simp only []
          obtain ⟨un, dn, rfl, ln⟩ := lay_t om
          have B10 := Lib.hid (B9.out.trans (hbn.mono B9.out.size))
          have BW10 := Lib.hid (BW9.out.trans (hbn.mono BW9.out.size))
          have TN := Lib.hid ln
          obtain ⟨nk, hnkk⟩ : ∃ n, K.length = n := ⟨_, rfl⟩
          have HNk := Lib.hid hnkk
          rw [hnkk] at hnk ⊢
          have hOn := owns_below HO.out BW10.out
          have h0 : Hid (wn.ownsRow base 43 2 v (L0 ++ (K.take 0).flatMap IF).length (itC (L0 ++ (K.take 0).flatMap IF))) := Lib.hid (by
            rw [List.take_zero, List.flatMap_nil, List.append_nil]
            exact hOn)
          have HBn : Hid (base ≤ wn.heap.size) := Lib.hid (Nat.le_trans HBW.out BW10.out.size)
          clear om hbn ln hnkk hOn
          repeat (first | go_skip | go_guarded | go_step | go_upon)
          go_loopw [4, 15] (fun s4 s15 wr => ∃ i : Nat, s15 = .int .i64 i ∧ i ≤ nk ∧ wr.ownsRow base 43 2 s4 (L0 ++ (K.take i).flatMap IF).length (itC (L0 ++ (K.take i).flatMap IF)) ∧ Below w.heap.size w wr ∧ KeepT wn wr ∧ base ≤ wr.heap.size) (fun _ s15 _ => nk - (Go.RowKit.intOf s15).toNat)
          case atStart => exact ⟨0, rfl, Nat.zero_le _, h0.out, B10.out, KeepT.refl _, HBn.out⟩
          case round =>
            obtain ⟨i, rfl, hi2, hoi, hbi, hki, hsi⟩ := hrel
            have HOi := Lib.hid hoi
            have HBi := Lib.hid hbi
            have HKi := Lib.hid hki
            have HSi := Lib.hid hsi
            clear hoi hbi hki hsi
            by_cases hlt : i < nk
            · have hiz : (i : Int) < nk := by omega
              obtain ⟨gk, ck, fk, rfl, hgk, hck⟩ := (TN.out.keep HKi.out) (by rw [HNk.out]; omega)
              obtain ⟨k, hk⟩ : ∃ k, K[i]? = some k := ⟨K[i]'(by rw [HNk.out]; exact hlt), List.getElem?_eq_getElem _⟩
              have kc := hck i k hk
              have hkm := List.mem_of_getElem? hk
              have hfl : (K.take (i + 1)).flatMap IF = (K.take i).flatMap IF ++ IF k := by
                rw [List.take_add_one, hk, Option.toList_some, List.flatMap_append]
                simp
              have hle : (L0 ++ (K.take i).flatMap IF ++ IF k).length ≤ 3003 := by
                have h := HLen.out
                rw [HQ.out] at h
                have e : K.flatMap IF = (K.take (i + 1)).flatMap IF ++ (K.drop (i + 1)).flatMap IF := by
                  rw [← List.flatMap_append, List.take_append_drop]
                rw [e, hfl] at h
                simp only [List.length_append] at h ⊢
                omega
              have CB2 := HBel.out k hkm wr
              have CI2 : Hid (∀ X, Below wr.heap.size wr X → _) := Lib.hid (fun X hX => IH.out k hkm X u4 (L0 ++ (K.take i).flatMap IF) (HBi.out.trans (hX.mono HBi.out.size)) (owns_below HOi.out hX) (Nat.le_trans HSi.out hX.size) hle)
              have HFl := Lib.hid hfl
              unfold txt at kc CB2 CI2
              clear hck hk hkm hfl hle hgk
              have CB2 := Lib.hid CB2
              repeat (first | go_skip | go_guarded | go_step | go_upon)
              refine CB2.out.mono ?_
              rintro r wb ⟨rfl, hbb⟩
              simp only []
              have HBb := Lib.hid hbb
              clear hbb
              repeat (first | go_skip | go_guarded | go_step | go_upon)
              refine (CI2.out wb HBb.out).mono ?_
              rintro r wc ⟨v', rfl, hoc, hbc, hkc, hsc⟩
              simp only []
              have HOc := Lib.hid hoc
              have HBc := Lib.hid hbc
              have HKc := Lib.hid (HKi.out.trans ((KeepT.below HBb.out).trans hkc))
              have HSc := Lib.hid hsc
              have HOc2 : Hid (wc.ownsRow base 43 2 v' (L0 ++ (K.take (i + 1)).flatMap IF).length (itC (L0 ++ (K.take (i + 1)).flatMap IF))) := Lib.hid (by
                rw [HFl.out, ← List.append_assoc]
                exact HOc.out)
              clear hoc hbc hkc hsc
              repeat (first | go_skip | go_guarded | go_step | go_upon)
              exact ⟨⟨i + 1, by go_num, by omega, HOc2.out, HBc.out, HKc.out, HSc.out⟩, by simp [Go.RowKit.intOf]; omega⟩
            · obtain rfl : nk = i := by omega
              have HOe : Hid (wr.ownsRow base 43 2 u4 (L0 ++ Q).length (itC (L0 ++ Q))) := Lib.hid (by
                have h := HOi.out
                rw [List.take_of_length_le (by rw [HNk.out]; exact Nat.le_refl _)] at h
                rw [HQ.out]
                exact h)
              repeat (first | go_skip | go_guarded | go_step | go_upon)
              go_ret
              exact ⟨_, rfl, HOe.out, HBi.out, (KeepT.below BW10.out).trans HKi.out, HSi.out⟩
        | false =>
          repeat (first | go_skip | go_guarded | go_step | go_upon)
          refine (S3.out w6 uo ub do_ db L1.out L3.out).mono ?_
          rintro r w7 ⟨rfl, hb5⟩
          simp only []
          have B7 := Lib.hid (B6.out.trans (hb5.mono B6.out.size))
          have BW7 := Lib.hid (BW6.out.trans (hb5.mono BW6.out.size))
          have L1 := Lib.hid (L1.out.below hb5)
          have L2 := Lib.hid (L2.out.below hb5)
          have L3 := Lib.hid (L3.out.below hb5)
          clear hb5
          by_cases h3 : qo = qb
          · rw [decide_eq_true h3]
            have HQ : Hid (Q = [(p, 2)]) := Lib.hid (by rw [HST.out]; simp [h1, h3, hda, hdb])
            have HOa := Lib.hid ((owns_below HO.out BW7.out).alloc (.cells #[.string ⟨p.toArray⟩, .int .i64 2] 43))
            have HBX : Hid (base ≤ w7.heap.size) := Lib.hid (Nat.le_trans HBW.out BW7.out.size)
            have HL0 : Hid (L0.length + 1 ≤ 3003) := Lib.hid (by have := HLen.out; rw [HQ.out, List.length_append] at this; simpa using this)
            repeat (first | (at_builtin; refine wpList_append_own _ rfl _ _ 27 rfl base 43 i0 (.agg #[.string ⟨#[]⟩, .int .i64 0]) 2 24 Tryz.underlying27 hi hz0 hz1 hz2 rfl (by decide) _ _ _ rfl HOa.out ⟨w7.heap.size, 0, none⟩ 1 1 [.string ⟨p.toArray⟩, .int .i64 2] rfl rfl (two_it w7 p 2) (by simp [Value.oneCell']) (by have := HL0.out; unfold maxLen; omega) (by have := HL0.out; omega) (by rw [World.size_alloc]; have := HBX.out; omega) ?_; intro v9 w9 ho9 hg9 _; have HD := Lib.hid (look_done (W := W) hbase B7.out (KeepT.below BW7.out) HBX.out HOa.out ho9 hg9); clear ho9 hg9) | go_skip | go_guarded | go_step | go_upon)
            go_ret
            rw [HQ.out]
            exact HD.out
          · rw [decide_eq_false h3]
            repeat (first | go_skip | go_guarded | go_step | go_upon)
            refine (S2.out w7 uo ua do_ da L1.out L2.out).mono ?_
            rintro r w8 ⟨rfl, hb5⟩
            simp only []
            have B8 := Lib.hid (B7.out.trans (hb5.mono B7.out.size))
            have BW8 := Lib.hid (BW7.out.trans (hb5.mono BW7.out.size))
            have L1 := Lib.hid (L1.out.below hb5)
            have L2 := Lib.hid (L2.out.below hb5)
            have L3 := Lib.hid (L3.out.below hb5)
            clear hb5
            by_cases h4 : qo = qa
            · rw [decide_eq_true h4]
              have HQ : Hid (Q = [(p, 3)]) := Lib.hid (by rw [HST.out]; simp [h1, h3, h4, hda, hdb])
              have HOa := Lib.hid ((owns_below HO.out BW8.out).alloc (.cells #[.string ⟨p.toArray⟩, .int .i64 3] 43))
              have HBX : Hid (base ≤ w8.heap.size) := Lib.hid (Nat.le_trans HBW.out BW8.out.size)
              have HL0 : Hid (L0.length + 1 ≤ 3003) := Lib.hid (by have := HLen.out; rw [HQ.out, List.length_append] at this; simpa using this)
              repeat (first | (at_builtin; refine wpList_append_own _ rfl _ _ 27 rfl base 43 i0 (.agg #[.string ⟨#[]⟩, .int .i64 0]) 2 24 Tryz.underlying27 hi hz0 hz1 hz2 rfl (by decide) _ _ _ rfl HOa.out ⟨w8.heap.size, 0, none⟩ 1 1 [.string ⟨p.toArray⟩, .int .i64 3] rfl rfl (two_it w8 p 3) (by simp [Value.oneCell']) (by have := HL0.out; unfold maxLen; omega) (by have := HL0.out; omega) (by rw [World.size_alloc]; have := HBX.out; omega) ?_; intro v9 w9 ho9 hg9 _; have HD := Lib.hid (look_done (W := W) hbase B8.out (KeepT.below BW8.out) HBX.out HOa.out ho9 hg9); clear ho9 hg9) | go_skip | go_guarded | go_step | go_upon)
              go_ret
              rw [HQ.out]
              exact HD.out
            · rw [decide_eq_false h4]
              have HQ : Hid (Q = [(p, 4)]) := Lib.hid (by rw [HST.out]; simp [h1, h3, h4, hda, hdb])
              have HOa := Lib.hid ((owns_below HO.out BW8.out).alloc (.cells #[.string ⟨p.toArray⟩, .int .i64 4] 43))
              have HBX : Hid (base ≤ w8.heap.size) := Lib.hid (Nat.le_trans HBW.out BW8.out.size)
              have HL0 : Hid (L0.length + 1 ≤ 3003) := Lib.hid (by have := HLen.out; rw [HQ.out, List.length_append] at this; simpa using this)
              repeat (first | (at_builtin; refine wpList_append_own _ rfl _ _ 27 rfl base 43 i0 (.agg #[.string ⟨#[]⟩, .int .i64 0]) 2 24 Tryz.underlying27 hi hz0 hz1 hz2 rfl (by decide) _ _ _ rfl HOa.out ⟨w8.heap.size, 0, none⟩ 1 1 [.string ⟨p.toArray⟩, .int .i64 4] rfl rfl (two_it w8 p 4) (by simp [Value.oneCell']) (by have := HL0.out; unfold maxLen; omega) (by have := HL0.out; omega) (by rw [World.size_alloc]; have := HBX.out; omega) ?_; intro v9 w9 ho9 hg9 _; have HD := Lib.hid (look_done (W := W) hbase B8.out (KeepT.below BW8.out) HBX.out HOa.out ho9 hg9); clear ho9 hg9) | go_skip | go_guarded | go_step | go_upon)
              go_ret
              rw [HQ.out]
              exact HD.out
      | false =>
        repeat (first | go_skip | go_guarded | go_step | go_upon)
        refine (S3.out w5 uo ub do_ db L1.out L3.out).mono ?_
        rintro r w6 ⟨rfl, hb5⟩
        simp only []
        have B6 := Lib.hid (B5.out.trans (hb5.mono B5.out.size))
        have BW6 := Lib.hid (BW5.out.trans (hb5.mono BW5.out.size))
        have L1 := Lib.hid (L1.out.below hb5)
        have L2 := Lib.hid (L2.out.below hb5)
        have L3 := Lib.hid (L3.out.below hb5)
        clear hb5
        by_cases h3 : qo = qb
        · rw [decide_eq_true h3]
          have HQ : Hid (Q = [(p, 2)]) := Lib.hid (by rw [HST.out]; simp [h1, h3, hda])
          have HOa := Lib.hid ((owns_below HO.out BW6.out).alloc (.cells #[.string ⟨p.toArray⟩, .int .i64 2] 43))
          have HBX : Hid (base ≤ w6.heap.size) := Lib.hid (Nat.le_trans HBW.out BW6.out.size)
          have HL0 : Hid (L0.length + 1 ≤ 3003) := Lib.hid (by have := HLen.out; rw [HQ.out, List.length_append] at this; simpa using this)
          repeat (first | (at_builtin; refine wpList_append_own _ rfl _ _ 27 rfl base 43 i0 (.agg #[.string ⟨#[]⟩, .int .i64 0]) 2 24 Tryz.underlying27 hi hz0 hz1 hz2 rfl (by decide) _ _ _ rfl HOa.out ⟨w6.heap.size, 0, none⟩ 1 1 [.string ⟨p.toArray⟩, .int .i64 2] rfl rfl (two_it w6 p 2) (by simp [Value.oneCell']) (by have := HL0.out; unfold maxLen; omega) (by have := HL0.out; omega) (by rw [World.size_alloc]; have := HBX.out; omega) ?_; intro v9 w9 ho9 hg9 _; have HD := Lib.hid (look_done (W := W) hbase B6.out (KeepT.below BW6.out) HBX.out HOa.out ho9 hg9); clear ho9 hg9) | go_skip | go_guarded | go_step | go_upon)
          go_ret
          rw [HQ.out]
          exact HD.out
        · rw [decide_eq_false h3]
          repeat (first | go_skip | go_guarded | go_step | go_upon)
          refine (S2.out w6 uo ua do_ da L1.out L2.out).mono ?_
          rintro r w7 ⟨rfl, hb5⟩
          simp only []
          have B7 := Lib.hid (B6.out.trans (hb5.mono B6.out.size))
          have BW7 := Lib.hid (BW6.out.trans (hb5.mono BW6.out.size))
          have L1 := Lib.hid (L1.out.below hb5)
          have L2 := Lib.hid (L2.out.below hb5)
          have L3 := Lib.hid (L3.out.below hb5)
          clear hb5
          by_cases h4 : qo = qa
          · rw [decide_eq_true h4]
            have HQ : Hid (Q = [(p, 3)]) := Lib.hid (by rw [HST.out]; simp [h1, h3, h4, hda])
            have HOa := Lib.hid ((owns_below HO.out BW7.out).alloc (.cells #[.string ⟨p.toArray⟩, .int .i64 3] 43))
            have HBX : Hid (base ≤ w7.heap.size) := Lib.hid (Nat.le_trans HBW.out BW7.out.size)
            have HL0 : Hid (L0.length + 1 ≤ 3003) := Lib.hid (by have := HLen.out; rw [HQ.out, List.length_append] at this; simpa using this)
            repeat (first | (at_builtin; refine wpList_append_own _ rfl _ _ 27 rfl base 43 i0 (.agg #[.string ⟨#[]⟩, .int .i64 0]) 2 24 Tryz.underlying27 hi hz0 hz1 hz2 rfl (by decide) _ _ _ rfl HOa.out ⟨w7.heap.size, 0, none⟩ 1 1 [.string ⟨p.toArray⟩, .int .i64 3] rfl rfl (two_it w7 p 3) (by simp [Value.oneCell']) (by have := HL0.out; unfold maxLen; omega) (by have := HL0.out; omega) (by rw [World.size_alloc]; have := HBX.out; omega) ?_; intro v9 w9 ho9 hg9 _; have HD := Lib.hid (look_done (W := W) hbase B7.out (KeepT.below BW7.out) HBX.out HOa.out ho9 hg9); clear ho9 hg9) | go_skip | go_guarded | go_step | go_upon)
            go_ret
            rw [HQ.out]
            exact HD.out
          · rw [decide_eq_false h4]
            have HQ : Hid (Q = [(p, 4)]) := Lib.hid (by rw [HST.out]; simp [h1, h3, h4, hda])
            have HOa := Lib.hid ((owns_below HO.out BW7.out).alloc (.cells #[.string ⟨p.toArray⟩, .int .i64 4] 43))
            have HBX : Hid (base ≤ w7.heap.size) := Lib.hid (Nat.le_trans HBW.out BW7.out.size)
            have HL0 : Hid (L0.length + 1 ≤ 3003) := Lib.hid (by have := HLen.out; rw [HQ.out, List.length_append] at this; simpa using this)
            repeat (first | (at_builtin; refine wpList_append_own _ rfl _ _ 27 rfl base 43 i0 (.agg #[.string ⟨#[]⟩, .int .i64 0]) 2 24 Tryz.underlying27 hi hz0 hz1 hz2 rfl (by decide) _ _ _ rfl HOa.out ⟨w7.heap.size, 0, none⟩ 1 1 [.string ⟨p.toArray⟩, .int .i64 4] rfl rfl (two_it w7 p 4) (by simp [Value.oneCell']) (by have := HL0.out; unfold maxLen; omega) (by have := HL0.out; omega) (by rw [World.size_alloc]; have := HBX.out; omega) ?_; intro v9 w9 ho9 hg9 _; have HD := Lib.hid (look_done (W := W) hbase B7.out (KeepT.below BW7.out) HBX.out HOa.out ho9 hg9); clear ho9 hg9) | go_skip | go_guarded | go_step | go_upon)
            go_ret
            rw [HQ.out]
            exact HD.out
end
end RC
end Go.Proofs.YtmpmmebmhffaeaaGreatDoor
