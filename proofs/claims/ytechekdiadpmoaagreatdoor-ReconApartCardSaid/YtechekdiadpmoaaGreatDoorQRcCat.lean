/- Layer 6: the contracts of slices.Grow, slices.Concat at lists of nodes (cut of stage 6). -/
import Derived.Test.YtechekdiadpmoaaGreatDoorQArMake
import Derived.Lib.AppendZeros
import Derived.Lib.SliceRun
set_option linter.all false
set_option maxRecDepth 100000
set_option maxHeartbeats 25600000
namespace Go.Proofs.YtechekdiadpmoaaGreatDoor
open Go.RowKit Go.Lib Go.BigFrame
namespace TG
open OM TP TM TR

theorem nodes_app (a b : List Nd) : nodesC (a ++ b) = nodesC a ++ nodesC b := by
  unfold nodesC
  rw [List.flatMap_append]
/-- A list of nodes somewhere in memory. -/
structure Pc where
  a : Option Addr
  c : Nat
  l : List Nd
/-- It lies there, and nil has no room. -/
structure PcOk (w : World) (e : Pc) : Prop where
  lay : LayN w e.a e.l
  nil : e.a = none → e.c = 0
theorem PcOk.below {w w' : World} {e : Pc} (h : PcOk w e) (hb : Below w.heap.size w w') : PcOk w' e := ⟨h.lay.below hb, h.nil⟩
theorem PcOk.none {w : World} {e : Pc} (h : PcOk w e) (ha : e.a = none) : e.l = [] := by
  rcases Nat.eq_zero_or_pos e.l.length with h0 | h0
  · exact List.length_eq_zero_iff.1 h0
  · obtain ⟨g, o, h', _⟩ := h.lay h0
    rw [ha] at h'
    cases h'
def tot (L : List Pc) (k : Nat) : Nat := ((L.take k).map (·.l.length)).sum
def cat (L : List Pc) (k : Nat) : List Nd := (L.take k).flatMap (·.l)
theorem tot_succ {L : List Pc} {k : Nat} {e : Pc} (h : L[k]? = some e) : tot L (k + 1) = tot L k + e.l.length := by
  unfold tot
  rw [List.take_add_one, h, Option.toList_some, List.map_append, List.sum_append]
  simp
theorem cat_succ {L : List Pc} {k : Nat} {e : Pc} (h : L[k]? = some e) : cat L (k + 1) = cat L k ++ e.l := by
  unfold cat
  rw [List.take_add_one, h, Option.toList_some, List.flatMap_append]
  simp
theorem cat_len (L : List Pc) (k : Nat) : (cat L k).length = tot L k := by
  unfold cat tot
  rw [List.length_flatMap]
theorem tot_le (L : List Pc) (k : Nat) : tot L k ≤ tot L L.length := by
  unfold tot
  rw [List.take_length]
  conv => rhs; rw [← List.take_append_drop k L]
  rw [List.map_append, List.sum_append]
  omega
theorem cat_end {L : List Pc} {k : Nat} (h : L.length ≤ k) : cat L k = L.flatMap (·.l) := by
  unfold cat
  rw [List.take_of_length_le h]
set_option maxRecDepth 100000 in
set_option maxHeartbeats 1600000 in
theorem growN_any (n : Nat) (hn : n ≤ 10000) (w : World) :
    Calls Tryz.prog 57 #[.slice none 0 0, .int .i64 n] w (AtPost [] w) := by
  obtain ⟨i0, hi, hz0, hz1, hz2⟩ := info_parts infoN
  by_cases h0 : n = 0
  · subst h0
    go_enter Tryz.func57, Tryz.ntmps57
    repeat (first | go_skip | go_guarded | go_step | go_upon)
    go_ret
    exact AtPost.nil rfl (Below.refl _ _)
  · have hnz : (0 : Int) < n := by omega
    have hneg : ¬ (n : Int) < 0 := by omega
    have hrz := fun ty => run_append_nil_zeros w 22 3 ty 40 i0 (ndVal zeroN) .i64 .i64 Tryz.underlying22 Tryz.underlying3 hi hz0 n (by omega) (by rw [hz1]; decide) (by omega) (by rw [hz2]; omega)
    have hG1 : n ≤ grownCap w n 0 40 := grownCap_ge w _ _ _
    have hG2 := grownCap_le_maxLen w n 0 40 (by unfold maxLen; omega)
    obtain ⟨G, hG⟩ : ∃ G, grownCap w n 0 40 = G := ⟨_, rfl⟩
    rw [hG] at hrz hG1 hG2
    obtain ⟨cur, hcur⟩ : ∃ cur, Builtin.zeroCells (ndVal zeroN).cells n ++ Builtin.zeroCells (ndVal zeroN).cells (G - n) = cur := ⟨_, rfl⟩
    have hcs : cur.size = G * 4 := by
      rw [← hcur, Array.size_append, size_zeroCells, size_zeroCells, show (ndVal zeroN).cells.size = 4 from rfl]
      omega
    rw [hcur] at hrz
    have HOw : Hid ((w.drew.alloc (.cells cur 40)).ownsRow w.heap.size 40 4 (.slice (some ⟨w.heap.size, 0, none⟩) 0 G) 0 []) := Lib.hid (World.ownsRow_made w.drew cur G (Nat.le_refl _) hG2 hcs)
    have B0 : Hid (Below w.heap.size w (w.drew.alloc (.cells cur 40))) := Lib.hid ((Below.drew (Below.refl _ _)).alloc (Nat.le_refl _) _)
    have hG3 : (0 : Int) ≤ G := by omega
    have hsl := fun W => sl_to ndsl_node (some ⟨w.heap.size, 0, none⟩) n 0 G 0 rfl (Nat.zero_le _) W
    have hsn := fun W => sl_to ndsl_node none 0 0 0 0 rfl (Nat.zero_le _) W
    have HRz := Lib.hid hrz
    clear hcur hG hcs hi hz0 hz1 hz2 hrz h0 hG1 hG2
    go_enter Tryz.func57, Tryz.ntmps57
    repeat (first
      | (at_builtin; refine wpList_append_run _ rfl _ _ _ _ rfl _ _ rfl rfl _ _ (HRz.out _) ?_)
      | go_skip | go_guarded | go_step | go_upon)
    go_ret
    exact ⟨_, rfl, HOw.out, B0.out⟩
set_option maxRecDepth 100000 in
set_option maxHeartbeats 3200000 in
theorem catN_any (g c : Nat) (L : List Pc) (w : World) (hg : g < w.heap.size) (hcell : ∀ j e, L[j]? = some e → w.cell? ⟨g, j, none⟩ = some (.slice e.a e.l.length e.c)) (hok : ∀ e ∈ L, PcOk w e) (hsum : tot L L.length ≤ 10000) (hlen : L.length ≤ 10) :
    Calls Tryz.prog 33 #[.slice (some ⟨g, 0, none⟩) L.length c] w (AtPost (L.flatMap (·.l)) w) := by
  obtain ⟨i0, hi, hz0, hz1, hz2⟩ := info_parts infoN
  have CG : Hid (∀ n : Nat, n ≤ 10000 → ∀ W, Calls Tryz.prog 57 #[.slice none 0 0, .int .i64 n] W (AtPost [] W)) := Lib.hid (fun n hn W => growN_any n hn W)
  have HOk := Lib.hid hok
  have HC := Lib.hid hcell
  have HSum := Lib.hid hsum
  obtain ⟨m, hm⟩ : ∃ m, L.length = m := ⟨_, rfl⟩
  have HM := Lib.hid hm
  rw [hm] at hlen HSum ⊢
  have HTl : Hid (∀ k, tot L k ≤ 10000) := Lib.hid (fun k => Nat.le_trans (tot_le L k) hsum)
  clear hcell hok hsum hm
  go_enter Tryz.func33, Tryz.ntmps33
  repeat (first | go_skip | go_guarded | go_step | go_upon)
  go_loopw [11, 3] (fun s11 s3 wr => ∃ k : Nat, s11 = .int .i64 k ∧ s3 = .int .i64 (tot L k : Nat) ∧ k ≤ m ∧ Below w.heap.size w wr) (fun s11 _ _ => m - (Go.RowKit.intOf s11).toNat)
  case atStart => exact ⟨0, rfl, rfl, Nat.zero_le _, Below.refl _ _⟩
  case round =>
    obtain ⟨k, rfl, rfl, hk, hb⟩ := hrel
    have HB := Lib.hid hb
    by_cases hlt : k < m
    · have hkz : (k : Int) < m := by omega
      obtain ⟨e, he⟩ : ∃ e, L[k]? = some e := ⟨L[k]'(by rw [HM.out]; exact hlt), List.getElem?_eq_getElem _⟩
      have c0 := (hb.cell (p := ⟨g, k, none⟩) hg).trans (HC.out k e he)
      have HT := Lib.hid (tot_succ he)
      have ht1 := HTl.out (k + 1)
      have ht0 := HTl.out k
      rw [HT.out] at ht1
      obtain ⟨T, hT⟩ : ∃ T, tot L k = T := ⟨_, rfl⟩
      rw [hT] at ht1 ht0 HT ⊢
      obtain ⟨a, ca, l⟩ := e
      simp only at c0 ht1 HT
      obtain ⟨q, hq⟩ : ∃ q, l.length = q := ⟨_, rfl⟩
      rw [hq] at c0 ht1 HT
      have hqz : (T : Int) + (q : Int) ≤ 10000 := by omega
      have hneg : ¬ (T : Int) + (q : Int) < 0 := by omega
      clear hb he hT hq hlt
      repeat (first | go_skip | go_guarded | go_step | go_upon)
      exact ⟨⟨k + 1, by go_num, by rw [HT.out]; go_num, by omega, HB.out⟩, by simp [Go.RowKit.intOf]; omega⟩
    · have hkz : ¬ (k : Int) < m := by omega
      obtain rfl : k = m := by omega
      obtain ⟨T, hT⟩ : ∃ T, tot L k = T := ⟨_, rfl⟩
      have ht0 := HTl.out k
      rw [hT] at ht0 ⊢
      clear hb hlt hT hk
      repeat (first | (go_at_call 57; fail) | go_skip | go_guarded | go_step | go_upon)
      refine (CG.out T ht0 _).mono ?_
      rintro r w1 ⟨u, rfl, hown, hb⟩
      simp only []
      have HO0 := Lib.hid (owns_base hown w.heap.size HB.out.size)
      have HB1 := Lib.hid (Below.trans HB.out (hb.mono HB.out.size))
      clear hown hb HB
      repeat (first | go_skip | go_guarded | go_step | go_upon)
      go_loopw [27, 6] (fun s27 s6 wr => ∃ j : Nat, s27 = .int .i64 j ∧ j ≤ k ∧ wr.ownsRow w.heap.size 40 4 s6 (cat L j).length (nodesC (cat L j)) ∧ Below w.heap.size w wr) (fun s27 _ _ => k - (Go.RowKit.intOf s27).toNat)
      case atStart => exact ⟨0, rfl, Nat.zero_le _, HO0.out, HB1.out⟩
      case round =>
        obtain ⟨j, rfl, hj, ho, hb⟩ := hrel
        have HB := Lib.hid hb
        have HO := Lib.hid ho
        have hbs := hb.size
        clear ho
        by_cases hlt : j < k
        · have hkz : (j : Int) < k := by omega
          obtain ⟨e, he⟩ : ∃ e, L[j]? = some e := ⟨L[j]'(by rw [HM.out]; exact hlt), List.getElem?_eq_getElem _⟩
          have c0 := (hb.cell (p := ⟨g, j, none⟩) hg).trans (HC.out j e he)
          have hpc := (HOk.out e (List.mem_of_getElem? he)).below hb
          have HT := Lib.hid (tot_succ he)
          have HK := Lib.hid (cat_succ he)
          have HLn := Lib.hid (cat_len L j)
          have ht1 := HTl.out (j + 1)
          rw [HT.out] at ht1
          obtain ⟨a, ca, l⟩ := e
          simp only at c0 ht1 HT HK
          cases a with
          | none =>
            have hl0 : l = [] := hpc.none rfl
            have hc0 : ca = 0 := hpc.nil rfl
            subst hl0 hc0
            have HK2 : Hid (cat L (j + 1) = cat L j) := Lib.hid (by rw [HK.out, List.append_nil])
            clear hb he hpc hlt HK ht1
            repeat (first
              | (at_builtin; refine wpList_append_own_none rfl _ _ 22 rfl w.heap.size 40 i0 4 Tryz.underlying22 hi _ _ _ rfl HO.out rfl ?_)
              | go_skip | go_guarded | go_step | go_upon)
            exact ⟨⟨j + 1, by go_num, by omega, by rw [HK2.out]; exact HO.out, HB.out⟩, by simp [Go.RowKit.intOf]; omega⟩
          | some ad =>
            have HNws := Lib.hid (lay_cells hpc.lay)
            have HNl : Hid ((nodesC l).length = l.length * 4) := Lib.hid (nodes_len l)
            have HNd : Hid (∀ u ∈ nodesC l, u.oneCell' = true) := Lib.hid (nds_one l)
            have HLl : Hid ((cat L (j + 1)).length = (cat L j).length + l.length) := Lib.hid (by rw [HK.out, List.length_append])
            simp only at HNws
            obtain ⟨q, hq⟩ : ∃ q, l.length = q := ⟨_, rfl⟩
            rw [hq] at c0 ht1 HNl HLl
            have hcq : (cat L j).length + q ≤ 10000 := by rw [HLn.out]; exact ht1
            clear hb he hpc hlt hq ht1
            repeat (first
              | (at_builtin; refine wpList_append_own _ rfl _ _ 22 rfl w.heap.size 40 i0 (ndVal zeroN) 4 48 Tryz.underlying22 hi hz0 hz1 hz2 rfl (by decide) _ _ _ rfl HO.out ad q ca (nodesC l) rfl HNl.out HNws.out HNd.out (by unfold maxLen; omega) (by omega) hbs ?_; intro v' w5 hown' hgrow5 hnil5; have HO5 := Lib.hid hown'; have HB5 := Lib.hid (HB.out.grown hgrow5 hbs (fun j hj => (HO.out.lt j hj).1)); clear hown' hgrow5 hnil5)
              | go_skip | go_guarded | go_step | go_upon)
            refine ⟨⟨j + 1, by go_num, by omega, ?_, HB5.out⟩, by simp [Go.RowKit.intOf]; omega⟩
            rw [HLl.out, HK.out, nodes_app]
            exact HO5.out
        · have hkz : ¬ (j : Int) < k := by omega
          have HK : Hid (cat L j = L.flatMap (·.l)) := Lib.hid (cat_end (by rw [HM.out]; omega))
          clear hb hlt
          repeat (first | go_skip | go_guarded | go_step | go_upon)
          go_ret
          exact ⟨_, rfl, by rw [← HK.out]; exact HO.out, HB.out⟩
end TG
end Go.Proofs.YtechekdiadpmoaaGreatDoor
