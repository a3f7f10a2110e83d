/- Layer 12: the walk of ReconApart. -/
import Derived.Test.YtechekdiadpmoaaGreatDoorQRcLay
import Derived.Test.YtechekdiadpmoaaGreatDoorQRcApP
import Derived.Test.YtechekdiadpmoaaGreatDoorQRcDiff
import Derived.Test.YtechekdiadpmoaaGreatDoorQRcAt
import Derived.Test.YtechekdiadpmoaaGreatDoorQR01
import Derived.Test.YtechekdiadpmoaaGreatDoorQQMix
set_option linter.all false
set_option maxRecDepth 100000
set_option maxHeartbeats 25600000
namespace Go.Proofs.YtechekdiadpmoaaGreatDoor
open Go.RowKit Go.Lib Go.Maps Go.BigFrame Go.Sort
namespace RC
open OM TP TM TR TG TW NP

theorem rrow_below {W W' : World} {B : Nat} {o : Obj} (h : W.heap[B]? = some o) (hb : Below W.heap.size W W') : W'.heap[B]? = some o := (hb.block B (Array.getElem?_eq_some_iff.1 h).1).trans h
theorem cells3r {W : World} {B : Nat} {t : TypeId} {a b c : Value} (h : W.heap[B]? = some (.cells #[a, b, c] t (0, 0))) : W.cell? ⟨B, 0, none⟩ = some a ∧ W.cell? ⟨B, 1, none⟩ = some b ∧ W.cell? ⟨B, 2, none⟩ = some c := by simp [World.cell?, h]
theorem cells2r {W : World} {B : Nat} {t : TypeId} {a b : Value} (h : W.heap[B]? = some (.cells #[a, b] t (0, 0))) : W.cell? ⟨B, 0, none⟩ = some a ∧ W.cell? ⟨B, 1, none⟩ = some b := by simp [World.cell?, h]
theorem cells1r {W : World} {B : Nat} {t : TypeId} {a : Value} (h : W.heap[B]? = some (.cells #[a] t (0, 0))) : W.cell? ⟨B, 0, none⟩ = some a := by simp [World.cell?, h]
theorem rwithin_txt (p q : List UInt8) (W : World) (hp : p.length ≤ 1048576) (hq : q.length ≤ 1048576) :
    Calls Tryz.prog 14 #[txt p, txt q] W fun e W' => e = .returned (.bool (withinL p q)) ∧ Below W.heap.size W W' := by
  have := R1.RO.rwithin_any ⟨p.toArray⟩ ⟨q.toArray⟩ W (by rw [Lib.size_eq]; exact hp) (by rw [Lib.size_eq]; exact hq)
  exact this
set_option maxRecDepth 100000 in
set_option maxHeartbeats 3200000 in
/-- The statement's own closure: does a path lie within an item's? -/
theorem in_cl (B : Nat) (u : Option Addr) (c : Nat) (L : List It) (q : List UInt8) (W : World) (hB : W.cell? ⟨B, 0, none⟩ = some (.slice u L.length c)) (hL : LayI W u L) (hl : L.length ≤ 3003) (hs : ∀ x ∈ L, x.1.length ≤ 1048576) (hq : q.length ≤ 1048576) (hy : ∃ i ∈ L, inP q i.1 = true) :
    Calls Tryz.prog 13 #[txt q, .pointer (some ⟨B, 0, none⟩)] W fun r w' => r = .returned (.bool true) ∧ Below W.heap.size W w' := by
  have CW : Hid (∀ W p, p.length ≤ 1048576 → Calls Tryz.prog 14 #[txt q, txt p] W fun e W' => e = .returned (.bool (withinL q p)) ∧ Below W.heap.size W W') := Lib.hid (fun W p hp => rwithin_txt q p W hq hp)
  have HL := Lib.hid hL
  have HS := Lib.hid hs
  have HY := Lib.hid hy
  obtain ⟨n, hn⟩ : ∃ n, L.length = n := ⟨_, rfl⟩
  have HN := Lib.hid hn
  rw [hn] at hB hl
  have hnz : (n : Int) ≤ 3003 := by omega
  unfold txt at CW
  unfold txt
  have h0 : Hid (∀ x ∈ L.take 0, inP q x.1 = false) := Lib.hid (fun x hx => by simp at hx)
  clear hL hs hy hn hq
  go_enter Tryz.func13, Tryz.ntmps13
  repeat (first | go_skip | go_guarded | go_step | go_upon)
  go_loopw [8] (fun s8 wr => ∃ k : Nat, s8 = .int .i64 k ∧ k ≤ n ∧ (∀ x ∈ L.take k, inP q x.1 = false) ∧ Below W.heap.size W wr) (fun s8 _ => n - (Go.RowKit.intOf s8).toNat)
  case atStart => exact ⟨0, rfl, Nat.zero_le _, h0.out, Below.refl _ _⟩
  case round =>
    obtain ⟨k, rfl, hk, ht, hb⟩ := hrel
    have HT := Lib.hid ht
    have HB := Lib.hid hb
    clear ht hb
    by_cases hlt : k < n
    · have hkz : (k : Int) < n := by omega
      obtain ⟨g, rfl, hg, hc⟩ := (HL.out.below HB.out) (by rw [HN.out]; omega)
      obtain ⟨x, hx⟩ : ∃ x, L[k]? = some x := ⟨L[k]'(by rw [HN.out]; exact hlt), List.getElem?_eq_getElem _⟩
      obtain ⟨a0, a1⟩ := hc k x hx
      have hsx := HS.out x (List.mem_of_getElem? hx)
      obtain ⟨p, v⟩ := x
      simp only at a0 a1 hsx
      unfold txt at a0
      have HBn : Hid (Below W.heap.size W (wr.alloc (.cells #[.string ⟨p.toArray⟩, .int .i64 v] 42))) := Lib.hid (HB.out.alloc HB.out.size _)
      have HX : Hid (inP q p = false → ∀ x ∈ L.take (k + 1), inP q x.1 = false) := Lib.hid (fun h y hy => by
        rw [List.take_add_one, hx] at hy
        rcases List.mem_append.1 hy with hy | hy
        · exact HT.out y hy
        · simp at hy
          rw [hy]
          exact h)
      clear hc hx
      cases p with
      | nil =>
        clear hsx HX
        repeat (first | go_skip | go_guarded | go_step | go_upon)
        go_ret
        exact ⟨rfl, HBn.out⟩
      | cons p0 p =>
        rw [inP_ne (by simp)] at HX
        have C2 := Lib.hid (CW.out (wr.alloc (.cells #[.string ⟨(p0 :: p).toArray⟩, .int .i64 v] 42)) (p0 :: p) hsx)
        obtain ⟨b, hb⟩ : ∃ b, withinL q (p0 :: p) = b := ⟨_, rfl⟩
        rw [hb] at C2 HX
        clear hb hsx
        repeat (first | go_skip | go_guarded | go_step | go_upon)
        refine C2.out.mono ?_
        rintro r w2 ⟨rfl, hb2⟩
        simp only []
        have B2 := Lib.hid (HBn.out.trans (hb2.mono HBn.out.size))
        clear hb2
        cases b with
        | true =>
          repeat (first | go_skip | go_guarded | go_step | go_upon)
          go_ret
          exact ⟨rfl, B2.out⟩
        | false =>
          have HX2 := Lib.hid (HX.out rfl)
          repeat (first | go_skip | go_guarded | go_step | go_upon)
          exact ⟨⟨k + 1, by go_num, by omega, HX2.out, B2.out⟩, by simp [Go.RowKit.intOf]; omega⟩
    · exfalso
      obtain ⟨i, hi, hw⟩ := HY.out
      have h := HT.out
      rw [List.take_of_length_le (by rw [HN.out]; omega)] at h
      rw [h i hi] at hw
      cases hw
theorem pair_at {L : List It} (h : L.Pairwise fun i j => inP j.1 i.1 = false ∧ inP i.1 j.1 = false) {k m : Nat} {x y : It} (hx : L[k]? = some x) (hy : L[m]? = some y) (hne : k ≠ m) : inP y.1 x.1 = false := by
  obtain ⟨h1, e1⟩ := List.getElem?_eq_some_iff.1 hx
  obtain ⟨h2, e2⟩ := List.getElem?_eq_some_iff.1 hy
  rw [List.pairwise_iff_getElem] at h
  rcases Nat.lt_or_gt_of_ne hne with h3 | h3
  · have := h k m h1 h2 h3
    rw [e1, e2] at this
    exact this.1
  · have := h m k h2 h1 h3
    rw [e1, e2] at this
    exact this.2
/-- What the walk asks of the items of three trees. -/
structure ApOk (ta tb : List Nd) (L : List It) : Prop where
  small : ∀ x ∈ L, x.1.length ≤ 1048576
  apart : ∀ (k m : Nat) (x y : It), L[k]? = some x → L[m]? = some y → k ≠ m → inP y.1 x.1 = false
  tell : ∀ x ∈ L, decide (atL ta x.1 = atL tb x.1) = (x.2 == 1)
  all : ∀ q ∈ differL ta tb, q.length ≤ 1048576 ∧ ∃ i ∈ L, inP q i.1 = true
theorem ap_ok {xo ta tb : List Nd} (h : all3 xo ta tb = true) : ApOk ta tb (itL xo ta tb) := by
  obtain ⟨ho, ha, hb⟩ := all3_iff h
  have hi := items_ok ho ha hb _ [] (.inl rfl) (Nat.lt_succ_self _)
  unfold itL
  rw [if_pos h]
  refine ⟨fun x hx => ?_, fun k m x y hx hy hne => pair_at hi.apart hx hy hne, fun x hx => ?_, fun q hq => ?_⟩
  · rcases (hi.inn x hx).1 with e | e
    · rw [e]; simp
    · exact small_path e
  · rw [show (x.2 == 1) = decide (x.2 = 1) by rw [Bool.eq_iff_iff]; simp]
    exact decide_eq_decide.2 ((at_val ha hb x.1).trans (hi.tell x hx))
  · unfold differL at hq
    rw [if_pos ⟨(tree_iff _).2 ha, (tree_iff _).2 hb⟩] at hq
    obtain ⟨h1, h2⟩ := diff_unlike ha hb q hq
    exact ⟨small_path h1, hi.all q h1 rfl h2⟩
theorem lay_strs {w : World} {B : Nat} {v : Value} {l : List (List UInt8)} (h : w.ownsRow B 9 1 v l.length (l.map txt)) : ∃ ao c, v = .slice ao l.length c ∧ (0 < l.length → ∃ g, ao = some ⟨g, 0, none⟩ ∧ g < w.heap.size ∧ ∀ (i : Nat) (x : List UInt8), l[i]? = some x → w.cell? ⟨g, i, none⟩ = some (txt x)) := by
  obtain ⟨ao, c, rfl, hx⟩ := owns_view h
  refine ⟨ao, c, rfl, fun h0 => ?_⟩
  obtain ⟨g, rfl, hg, _, hc⟩ := hx h0
  refine ⟨g, rfl, hg, fun k n hk => ?_⟩
  have hkl := (List.getElem?_eq_some_iff.1 hk).1
  refine (hc k (by omega)).trans ?_
  rw [List.getElem?_map, hk]
  rfl
set_option maxRecDepth 100000 in
set_option maxHeartbeats 12800000 in
theorem apart_law (ao aa ab : Option Addr) (co ca cb : Nat) (xo ta tb : List Nd) (w : World) (he : NF.Env w) (lo : In w ao co xo) (la : In w aa ca ta) (lb : In w ab cb tb) :
    Calls Tryz.prog 4 #[.agg #[.slice ao xo.length co, .slice aa ta.length ca, .slice ab tb.length cb]] w fun r w' => r = .returned (.bool true) ∧ Below w.heap.size w w' := by
  have CW : Hid (∀ W, Below w.heap.size w W → Calls Tryz.prog 5 #[] W fun r w' => r = .returned (.bool true) ∧ Below W.heap.size W w') := Lib.hid (fun W hW => awake_any W (he.below hW))
  have C1 : ∀ W, Below w.heap.size w W → Calls Tryz.prog 7 #[.slice ao xo.length co, .slice aa ta.length ca, .slice ab tb.length cb] W fun r w' => ∃ u c, r = .returned (.tuple #[.slice u (itL xo ta tb).length c, .int .i64 (erL xo ta tb)]) ∧ LayI w' u (itL xo ta tb) ∧ Below W.heap.size W w' := fun W hW => itL_any (he.below hW) (lo.below hW) (la.below hW) (lb.below hW)
  have hL := itL_len xo ta tb
  obtain ⟨d, hd⟩ : ∃ d, all3 xo ta tb = d := ⟨_, rfl⟩
  have CA : Hid (d = true → ∀ W (p : List UInt8), Below w.heap.size w W → p.length ≤ 1048576 → Calls Tryz.prog 16 #[.slice aa ta.length ca, txt p] W (AtPost (atL ta p) W)) := Lib.hid (fun h W p hW hp => by
    obtain ⟨-, t1, -⟩ := all3_iff (hd.trans h)
    exact at_any aa ca ta p W (he.below hW) (la.lay.below hW) (small_tree t1) la.max la.cap hp)
  have CB : Hid (d = true → ∀ W (p : List UInt8), Below w.heap.size w W → p.length ≤ 1048576 → Calls Tryz.prog 16 #[.slice ab tb.length cb, txt p] W (AtPost (atL tb p) W)) := Lib.hid (fun h W p hW hp => by
    obtain ⟨-, -, t1⟩ := all3_iff (hd.trans h)
    exact at_any ab cb tb p W (he.below hW) (lb.lay.below hW) (small_tree t1) lb.max lb.cap hp)
  have CD : Hid (d = true → ∀ W, Below w.heap.size w W → Calls Tryz.prog 17 #[.slice aa ta.length ca, .slice ab tb.length cb] W (DiffPost ta tb W)) := Lib.hid (fun h W hW => by
    obtain ⟨-, t1, t2⟩ := all3_iff (hd.trans h)
    exact differ_any aa ab ca cb ta tb W (he.below hW) (la.lay.below hW) (lb.lay.below hW) (small_tree t1) (small_tree t2) la.max lb.max la.cap lb.cap la.no lb.no)
  have HK : Hid (d = true → ApOk ta tb (itL xo ta tb)) := Lib.hid (fun h => ap_ok (hd.trans h))
  have HAl : Hid (∀ p, (atL ta p).length ≤ maxLen ∧ (atL tb p).length ≤ maxLen) := Lib.hid (fun p => by
    have key : ∀ t : List Nd, (atL t p).length ≤ 1001 := fun t => by
      unfold atL
      split
      · rename_i ht
        have := ((tree_iff t).1 ht).len
        split
        · rw [List.length_cons]; omega
        · rw [List.length_map]
          have := List.length_filter_le (fun n : Nd => withinL n.path p) t
          omega
      · simp
    have h1 := key ta
    have h2 := key tb
    unfold maxLen
    omega)
  have hE : erL xo ta tb = if d = true then 0 else 60 := by unfold erL; rw [hd]
  have hN : d = false → itL xo ta tb = [] := fun h => by unfold itL; rw [hd, h]; rfl
  generalize itL xo ta tb = L at C1 hL HK hN
  rw [hE] at C1
  obtain ⟨n, hn⟩ : ∃ n, L.length = n := ⟨_, rfl⟩
  have HN := Lib.hid hn
  obtain ⟨no, hno⟩ : ∃ n, xo.length = n := ⟨_, rfl⟩
  obtain ⟨na, hna⟩ : ∃ n, ta.length = n := ⟨_, rfl⟩
  obtain ⟨nb, hnb⟩ : ∃ n, tb.length = n := ⟨_, rfl⟩
  rw [hno, hna, hnb, hn] at C1
  rw [hn] at hL
  rw [hna] at CA CD
  rw [hnb] at CB CD
  rw [hno, hna, hnb]
  have H1 := Lib.hid C1
  have hN2 : d = false → n = 0 := fun h => by rw [← hn, hN h]; rfl
  have HN2 := Lib.hid hN2
  unfold txt at CA CB
  have hnz : (n : Int) ≤ 3003 := by omega
  clear hno hna hnb he lo la lb C1 hn hd hE hN hN2
  go_enter Tryz.func4, Tryz.ntmps4
  repeat (first | go_skip | go_guarded | go_step | go_upon)
  have A0 : Hid (Below w.heap.size w (w.alloc (.cells #[.slice ao no co, .slice aa na ca, .slice ab nb cb] 24))) := Lib.hid ((Below.refl _ _).alloc (Nat.le_refl _) _)
  have HX : Hid ((w.alloc (.cells #[.slice ao no co, .slice aa na ca, .slice ab nb cb] 24)).heap[w.heap.size]? = some (.cells #[.slice ao no co, .slice aa na ca, .slice ab nb cb] 24 (0, 0))) := Lib.hid (heap_alloc_new w _)
  generalize w.alloc (.cells #[.slice ao no co, .slice aa na ca, .slice ab nb cb] 24) = w0 at A0 HX ⊢
  have TR : Hid (∀ W, Below w0.heap.size w0 W → Below w.heap.size w W) := Lib.hid (fun W hW => A0.out.trans (hW.mono A0.out.size))
  refine (CW.out _ A0.out).mono ?_
  rintro r w1 ⟨rfl, hb⟩
  simp only []
  have B1 : Hid (Below w0.heap.size w0 w1) := Lib.hid hb
  obtain ⟨x0, x1, x2⟩ := cells3r (rrow_below HX.out hb)
  clear hb
  repeat (first | go_skip | go_guarded | go_step | go_upon)
  refine (H1.out _ (TR.out _ B1.out)).mono ?_
  rintro r w2 ⟨uI, c2, rfl, hl2, hb⟩
  simp only []
  have B2 : Hid (Below w0.heap.size w0 w2) := Lib.hid (B1.out.trans (hb.mono B1.out.size))
  have L2 := Lib.hid hl2
  clear hb hl2 x0 x1 x2
  cases d with
  | false =>
    obtain rfl := HN2.out rfl
    have BX : Hid (Below w0.heap.size w0 (w2.alloc (.cells #[.slice uI 0 c2] 27))) := Lib.hid (B2.out.alloc B2.out.size _)
    simp only [Bool.false_eq_true, if_false]
    repeat (first | go_skip | go_guarded | go_step | go_upon)
    go_ret
    exact ⟨by first | rfl | simp, TR.out _ BX.out⟩
  | true =>
    simp only [if_true]
    have CA := Lib.hid (CA.out rfl)
    have CB := Lib.hid (CB.out rfl)
    have CD := Lib.hid (CD.out rfl)
    have HK := Lib.hid (HK.out rfl)
    repeat (first | go_skip | go_guarded | go_step | go_upon)
    have hrB := heap_alloc_new w2 (.cells #[.slice uI n c2] 27)
    have hBB : Below w2.heap.size w2 (w2.alloc (.cells #[.slice uI n c2] 27)) := (Below.refl _ _).alloc (Nat.le_refl _) _
    generalize w2.alloc (.cells #[.slice uI n c2] 27) = w3 at hrB hBB ⊢
    have B3 : Hid (Below w0.heap.size w0 w3) := Lib.hid (B2.out.trans (hBB.mono B2.out.size))
    have L3 := Lib.hid (L2.out.below hBB)
    have RB := Lib.hid hrB
    have HX3 := Lib.hid (rrow_below HX.out B3.out)
    clear hrB hBB
    go_loopw [32] (fun s32 wr => ∃ k : Nat, s32 = .int .i64 k ∧ k ≤ n ∧ Below w3.heap.size w3 wr) (fun s32 _ => n - (Go.RowKit.intOf s32).toNat)
    case atStart => exact ⟨0, rfl, Nat.zero_le _, Below.refl _ _⟩
    case round =>
      obtain ⟨k, rfl, hk, hb⟩ := hrel
      have HB := Lib.hid hb
      clear hb
      by_cases hlt : k < n
      · have hkz : (k : Int) < n := by omega
        obtain ⟨g, rfl, hg, hc⟩ := (L3.out.below HB.out) (by rw [HN.out]; omega)
        obtain ⟨x, hx⟩ : ∃ x, L[k]? = some x := ⟨L[k]'(by rw [HN.out]; exact hlt), List.getElem?_eq_getElem _⟩
        obtain ⟨a0, a1⟩ := hc k x hx
        have hsx := HK.out.small x (List.mem_of_getElem? hx)
        have htx := HK.out.tell x (List.mem_of_getElem? hx)
        have HAp : Hid (∀ (m : Nat) (y : It), L[m]? = some y → k ≠ m → inP y.1 x.1 = false) := Lib.hid (fun m y hy hne => HK.out.apart k m x y hx hy hne)
        obtain ⟨xp, xv⟩ := x
        simp only at a0 a1 hsx htx
        have HSx := Lib.hid hsx
        have HTx := Lib.hid htx
        have bx := cells1r (rrow_below RB.out HB.out)
        have hlb : w2.heap.size < wr.heap.size := (Array.getElem?_eq_some_iff.1 (rrow_below RB.out HB.out)).1
        unfold txt at a0
        clear hc hx hsx htx
        repeat (first | go_skip | go_guarded | go_step | go_upon)
        have hri := heap_alloc_new wr (.cells #[.string ⟨xp.toArray⟩, .int .i64 xv] 42)
        have HBi : Hid (Below w3.heap.size w3 (wr.alloc (.cells #[.string ⟨xp.toArray⟩, .int .i64 xv] 42))) := Lib.hid (HB.out.alloc HB.out.size _)
        generalize wr.alloc (.cells #[.string ⟨xp.toArray⟩, .int .i64 xv] 42) = wi at hri HBi ⊢
        obtain ⟨bi, hbi⟩ : ∃ b, wr.heap.size = b := ⟨_, rfl⟩
        rw [hbi] at hri ⊢
        have RI := Lib.hid hri
        have Li := Lib.hid (L3.out.below HBi.out)
        clear hri a0 a1 bx hlb hbi
        go_loopw [39] (fun s39 wr => ∃ m : Nat, s39 = .int .i64 m ∧ m ≤ n ∧ Below wi.heap.size wi wr) (fun s39 _ => n - (Go.RowKit.intOf s39).toNat)
        case atStart => exact ⟨0, rfl, Nat.zero_le _, Below.refl _ _⟩
        case round =>
          obtain ⟨m, rfl, hm, hb⟩ := hrel
          have HBj := Lib.hid hb
          clear hb
          by_cases hlm : m < n
          · have hmz : (m : Int) < n := by omega
            obtain ⟨g2, e2, hg2, hc2⟩ := (Li.out.below HBj.out) (by rw [HN.out]; omega)
            injection e2 with e2
            injection e2 with e2
            subst e2
            obtain ⟨y, hy⟩ : ∃ y, L[m]? = some y := ⟨L[m]'(by rw [HN.out]; exact hlm), List.getElem?_eq_getElem _⟩
            obtain ⟨b0, b1⟩ := hc2 m y hy
            have hsy := HK.out.small y (List.mem_of_getElem? hy)
            have hap := HAp.out m y hy
            obtain ⟨yp, yv⟩ := y
            simp only at b0 b1 hsy hap
            unfold txt at b0
            have HBn : Hid (RowKit.Below wi.heap.size wi (wr.alloc (.cells #[.string ⟨yp.toArray⟩, .int .i64 yv] 42))) := Lib.hid (HBj.out.alloc HBj.out.size _)
            by_cases hkm : k = m
            · have z : ((k : Int) != (m : Int)) = false := by simp; omega
              clear hap hkm hsy hc2 hy
              repeat (first | go_skip | go_guarded | go_step | go_upon)
              exact ⟨⟨m + 1, by go_num, by omega, HBn.out⟩, by simp [Go.RowKit.intOf]; omega⟩
            · have z : ((k : Int) != (m : Int)) = true := by simp; omega
              have hap := hap hkm
              have hri := rrow_below RI.out HBj.out
              obtain ⟨q0, q1⟩ := cells2r hri
              have hlb : bi < wr.heap.size := (Array.getElem?_eq_some_iff.1 hri).1
              have C2 := rwithin_txt yp xp (wr.alloc (.cells #[.string ⟨yp.toArray⟩, .int .i64 yv] 42)) hsy HSx.out
              unfold txt at C2
              have C2 := Lib.hid C2
              clear hkm hsy hc2 hy hri
              cases xp with
              | nil => exact absurd hap (by rw [inP_root]; simp)
              | cons p0 xp =>
                rw [inP_ne (by simp)] at hap
                rw [hap] at C2
                clear hap
                repeat (first | go_skip | go_guarded | go_step | go_upon)
                refine C2.out.mono ?_
                rintro r w5 ⟨rfl, hb5⟩
                simp only []
                have B5 := Lib.hid (HBn.out.trans (hb5.mono HBn.out.size))
                clear hb5
                repeat (first | go_skip | go_guarded | go_step | go_upon)
                exact ⟨⟨m + 1, by go_num, by omega, B5.out⟩, by simp [Go.RowKit.intOf]; omega⟩
          · obtain rfl : n = m := by omega
            repeat (first | go_skip | go_guarded | go_step | go_upon)
            obtain ⟨wj, hwj⟩ : ∃ W, wr = W := ⟨_, rfl⟩
            rw [hwj] at HBj ⊢
            have B3j : Hid (RowKit.Below w3.heap.size w3 wj) := Lib.hid (HBi.out.trans (HBj.out.mono HBi.out.size))
            have h8 := rrow_below HX3.out B3j.out
            have hi2 := rrow_below RI.out HBj.out
            have Bwj : Hid (RowKit.Below w.heap.size w wj) := Lib.hid (TR.out _ (B3.out.trans (B3j.out.mono B3.out.size)))
            clear hwj HBj
            refine wp_region_noPanic ?_
            with_reducible refine QT.region_mix (S := fun W' => W'.heap[w.heap.size]? = some (.cells #[.slice ao no co, .slice aa na ca, .slice ab nb cb] 24 (0, 0)) ∧ W'.heap[bi]? = some (.cells #[.string ⟨xp.toArray⟩, .int .i64 xv] 42 (0, 0))) [(true, 0), (true, 1), (true, 2), (true, 3), (true, 5), (true, 6), (true, 7), (true, 8), (true, 11), (true, 12), (true, 13), (false, 4), (false, 9), (false, 10)] 14 (by kernel_rfl) (by kernel_rfl) ?_ ?_ ?_
            · exact fun _ _ _ _ _ h => h
            · exact ⟨h8, hi2⟩
            intro _
            simp only [QT.pickM, List.filterMap_cons, List.filterMap_nil, List.getElem?_cons_succ, List.getElem?_cons_zero, Option.map_some, List.drop_succ_cons, List.drop_zero]
            iterate 11 (refine QT.wpMix_take _ (by rfl) (by intro w' hSw; obtain ⟨x0, x1, x2⟩ := cells3r hSw.1; obtain ⟨y0, y1⟩ := cells2r hSw.2; go_simp; first | done | rfl) ?_; try simp only [Act.put, List.setIfInBounds_toArray, List.set_cons_zero, List.set_cons_succ])
            intro K' hK
            rw [if_pos (by rfl)]
            go_simp
            refine (CA.out wj.drew xp Bwj.out.drew HSx.out).mono ?_
            rintro r w5 ⟨v5, rfl, ho5, hb5⟩
            simp only []
            have hbj5 : RowKit.Below wj.heap.size wj w5 := (Below.refl _ _).drew.trans hb5
            obtain ⟨p5, c5, rfl, hl5⟩ := lay_own ho5
            have Bw5 : Hid (RowKit.Below w.heap.size w w5) := Lib.hid (Bwj.out.trans (hbj5.mono Bwj.out.size))
            have HBJ5 := Lib.hid hbj5
            refine hK.out _ _ ⟨rrow_below h8 hbj5, rrow_below hi2 hbj5⟩ ?_
            clear hK K' ho5 hb5 hbj5
            try simp only [Act.put, List.setIfInBounds_toArray, List.set_cons_zero, List.set_cons_succ]
            intro K' hK
            rw [if_pos (by rfl)]
            go_simp
            refine (CB.out w5 xp Bw5.out HSx.out).mono ?_
            rintro r w6 ⟨v6, rfl, ho6, hb6⟩
            simp only []
            have hbj6 : RowKit.Below wj.heap.size wj w6 := HBJ5.out.trans (hb6.mono HBJ5.out.size)
            obtain ⟨p6, c6, rfl, hl6⟩ := lay_own ho6
            have CS := same_any p5 p6 c5 c6 (atL ta xp) (atL tb xp) w6 (hl5.below hb6) hl6 (HAl.out xp).1 (HAl.out xp).2
            rw [HTx.out] at CS
            have CS := Lib.hid CS
            have HBJ6 := Lib.hid hbj6
            refine hK.out _ _ ⟨rrow_below h8 hbj6, rrow_below hi2 hbj6⟩ ?_
            clear hK K' ho6 hb6 hbj6 hl5 hl6 HBJ5
            try simp only [Act.put, List.setIfInBounds_toArray, List.set_cons_zero, List.set_cons_succ]
            intro K' hK
            rw [if_pos (by rfl)]
            go_simp
            refine CS.out.mono ?_
            rintro r w7 ⟨rfl, hb7⟩
            simp only []
            have hbj7 : RowKit.Below wj.heap.size wj w7 := HBJ6.out.trans (hb7.mono HBJ6.out.size)
            have HB7 : Hid (RowKit.Below w3.heap.size w3 w7) := Lib.hid (B3j.out.trans (hbj7.mono B3j.out.size))
            refine hK.out _ _ ⟨rrow_below h8 hbj7, rrow_below hi2 hbj7⟩ ?_
            clear hK K' hb7 hbj7 h8 hi2 CS
            try simp only [Act.put, List.setIfInBounds_toArray, List.set_cons_zero, List.set_cons_succ]
            refine QT.wpMix_nil ?_
            generalize (xv == 1) = bb
            have hbb : (bb != bb) = false := by simp
            repeat (first | go_skip | go_guarded | go_step | go_upon)
            refine NoPanic.normal ?_
            repeat (first | go_skip | go_guarded | go_step | go_upon)
            exact ⟨⟨k + 1, by go_num, by omega, HB7.out⟩, by simp [Go.RowKit.intOf]; omega⟩
      · obtain rfl : n = k := by omega
        obtain ⟨wk, hwk⟩ : ∃ W, wr = W := ⟨_, rfl⟩
        rw [hwk] at HB ⊢
        have B3k : Hid (RowKit.Below w0.heap.size w0 wk) := Lib.hid (B3.out.trans (HB.out.mono B3.out.size))
        obtain ⟨x0, x1, x2⟩ := cells3r (rrow_below HX3.out HB.out)
        clear hwk
        repeat (first | go_skip | go_guarded | go_step | go_upon)
        refine (CD.out wk (TR.out _ B3k.out)).mono ?_
        rintro r w5 ⟨v5, rfl, ho5, hb5⟩
        simp only []
        obtain ⟨p5, c5, rfl, hs5⟩ := lay_strs ho5
        have HS5 := Lib.hid hs5
        have B35 : Hid (RowKit.Below w3.heap.size w3 w5) := Lib.hid (HB.out.trans (hb5.mono HB.out.size))
        have HAll := Lib.hid HK.out.all
        have hdl := owns_len ho5
        unfold maxLen at hdl
        clear hb5 ho5 hs5 x0 x1 x2
        generalize differL ta tb = D at HS5 HAll hdl ⊢
        obtain ⟨dn, hdn⟩ : ∃ dn, D.length = dn := ⟨_, rfl⟩
        have HDn := Lib.hid hdn
        rw [hdn] at hdl ⊢
        have hdz : (dn : Int) ≤ 9223372036854775807 := by omega
        clear hdn
        have CC : Hid (∀ W (q : List UInt8), RowKit.Below w3.heap.size w3 W → q.length ≤ 1048576 → (∃ i ∈ L, inP q i.1 = true) → Calls Tryz.prog 13 #[txt q, .pointer (some ⟨w2.heap.size, 0, none⟩)] W fun r w' => r = .returned (.bool true) ∧ RowKit.Below W.heap.size W w') := Lib.hid (fun W q hW hq hy => in_cl w2.heap.size uI c2 L q W (by rw [HN.out]; exact cells1r (rrow_below RB.out hW)) (L3.out.below hW) (by rw [HN.out]; exact hL) HK.out.small hq hy)
        have eg : ∀ args w, (callFunc 13 args).run Tryz.prog w = .ok (.enter 13 args) w := enters_of Tryz.func13 (by kernel_rfl) rfl
        repeat (first | go_skip | go_guarded | go_step | go_upon)
        go_loopw [82] (fun s82 wr => ∃ k : Nat, s82 = .int .i64 k ∧ k ≤ dn ∧ RowKit.Below w5.heap.size w5 wr) (fun s82 _ => dn - (Go.RowKit.intOf s82).toNat)
        case atStart => exact ⟨0, rfl, Nat.zero_le _, Below.refl _ _⟩
        case round =>
          obtain ⟨k, rfl, hk, hb⟩ := hrel
          have HBd := Lib.hid hb
          clear hb
          by_cases hlt : k < dn
          · have hkz : (k : Int) < dn := by omega
            obtain ⟨g, rfl, hg, hc⟩ := HS5.out (by rw [HDn.out]; omega)
            obtain ⟨q, hq⟩ : ∃ q, D[k]? = some q := ⟨D[k]'(by rw [HDn.out]; exact hlt), List.getElem?_eq_getElem _⟩
            have a0 := (HBd.out.cell (p := ⟨g, k, none⟩) hg).trans (hc k q hq)
            obtain ⟨h1, h2⟩ := HAll.out q (List.mem_of_getElem? hq)
            have C2 := CC.out wr q (B35.out.trans (HBd.out.mono B35.out.size)) h1 h2
            unfold txt at a0 C2
            have C2 := Lib.hid C2
            clear hc hq h1 h2 hg
            repeat (first | (go_at_fn 13; refine C2.out.mono ?_; rintro r w6 ⟨rfl, hb6⟩; simp only []; have B6 := Lib.hid (HBd.out.trans (hb6.mono HBd.out.size)); clear hb6) | go_skip | go_guarded | go_step | go_upon)
            exact ⟨⟨k + 1, by go_num, by omega, B6.out⟩, by simp [Go.RowKit.intOf]; omega⟩
          · obtain rfl : dn = k := by omega
            repeat (first | go_skip | go_guarded | go_step | go_upon)
            go_ret
            exact ⟨rfl, TR.out _ (B3.out.trans ((B35.out.trans (HBd.out.mono B35.out.size)).mono B3.out.size))⟩
end RC
end Go.Proofs.YtechekdiadpmoaaGreatDoor
