/- Layer 12: the contract of ordered. -/
import Derived.Test.YtmpmmebmhffaeaaGreatDoorQRcBe
import Derived.Test.YtmpmmebmhffaeaaGreatDoorQRcKey
import Derived.Sort.OwnSorted
import Derived.Maps.RangeWalk
import Derived.Shelf.Slices.In.SortNone
set_option linter.all false
set_option maxRecDepth 100000
set_option maxHeartbeats 25600000
namespace Go.Proofs.YtmpmmebmhffaeaaGreatDoor
open Go.RowKit Go.Lib Go.Maps Go.BigFrame Go.Sort
namespace RC
open OM TP TM TR TG

theorem infoStr : (Tryz.prog.info? 9).map (fun i => (i.zero, i.size, i.bytes)) = some (some (.string ⟨#[]⟩), 1, 16) := by kernel_rfl
/-- A map of what stands right in v. -/
def Mp (W : World) (b : Nat) (v : List Nd) : Prop := ∃ n D, n ≤ 1001 ∧ Grp W (b + 1) b n D (subL v)
theorem Mp.below {W W' : World} {b : Nat} {v : List Nd} (h : Mp W b v) (hb : Below W.heap.size W W') : Mp W' b v := by
  obtain ⟨n, D, h1, h2⟩ := h
  exact ⟨n, D, h1, h2.below hb⟩
theorem Mp.lt {W : World} {b : Nat} {v : List Nd} (h : Mp W b v) : b < W.heap.size := by
  obtain ⟨n, D, h1, h2⟩ := h
  exact h2.map.lt
/-- Of the three. -/
def pick3 {α : Type} (x y z : α) : Nat → α
  | 0 => x
  | 1 => y
  | _ => z
def seen3 (o a b : List Nd) (k : Nat) (x : List UInt8) : Prop := ∃ j, j < k ∧ subL (pick3 o a b j) x ≠ []
theorem compact_row {w : World} {base g cap q : Nat} {e : TypeId} {cur : Array Value} {zs : List (List UInt8)} (hbase : base ≤ g) (hb : w.heap[g]? = some (.cells cur e (0, 0))) (h1 : zs.length ≤ cap) (h2 : cap ≤ maxLen) (h3 : cur.size = cap * 1) (hc : (Lib.compact zs).length ≤ zs.length) :
    (putRow encStr (Sort.ahead w q) g 0 (Lib.compact zs ++ List.replicate (zs.length - (Lib.compact zs).length) []).toArray).ownsRow base e 1 (.slice (some ⟨g, 0, none⟩) (Lib.compact zs).length cap) (Lib.compact zs).length ((Lib.compact zs).map encStr) := by
  obtain ⟨ts, hts⟩ : ∃ ts, Lib.compact zs ++ List.replicate (zs.length - (Lib.compact zs).length) [] = ts := ⟨_, rfl⟩
  have hl : ts.length = zs.length := by rw [← hts]; simp; omega
  have hh := heap_sorted (n := q) (os := #[]) ts.toArray hb
  rw [grow_empty] at hh
  rw [hts]
  refine ⟨by simp, .inr ⟨g, cap, _, rfl, hbase, hh, by omega, h2, by simp [putCells, h3], ?_⟩⟩
  have ht := take_putCells cur ts (by omega)
  have h4 : ((putCells encStr 0 ts.toArray cur).toList.take ts.length).take (Lib.compact zs).length = (ts.map encStr).take (Lib.compact zs).length := by rw [ht]
  rw [List.take_take, Nat.min_eq_left (by omega)] at h4
  rw [Nat.mul_one, h4, ← hts, List.map_append, List.take_left' (by simp)]
set_option maxRecDepth 100000 in
set_option maxHeartbeats 6400000 in
theorem ordered_any (b1 b2 b3 : Nat) (o a b : List Nd) (w : World) (h1 : Mp w b1 o) (h2 : Mp w b2 a) (h3 : Mp w b3 b) :
    Calls Tryz.prog 26 #[.agg #[.map (some b1), .map (some b2), .map (some b3)]] w fun r w' => ∃ u, r = .returned u ∧ w'.ownsRow w.heap.size 9 1 u (namesK o a b).length ((namesK o a b).map encStr) ∧ Below w.heap.size w w' := by
  obtain ⟨i0, hi, hz0, hz1, hz2⟩ : ∃ i0, Tryz.prog.info? 9 = some i0 ∧ i0.zero = some (.string ⟨#[]⟩) ∧ i0.size = 1 ∧ i0.bytes = 16 := by
    have := infoStr
    cases e : Tryz.prog.info? 9 with
    | none => rw [e] at this; cases this
    | some i0 =>
      rw [e] at this
      simp only [Option.map_some, Option.some.injEq, Prod.mk.injEq] at this
      exact ⟨i0, rfl, this.1, this.2.1, this.2.2⟩
  have H1 := Lib.hid h1
  have H2 := Lib.hid h2
  have H3 := Lib.hid h3
  clear h1 h2 h3
  go_enter Tryz.func26, Tryz.ntmps26
  repeat (first | go_skip | go_guarded | go_step | go_upon)
  obtain ⟨W0, hW0⟩ : ∃ W0, ((w.alloc (.cells #[.map (some b1), .map (some b2), .map (some b3)] 47)).alloc (.cells #[.map (some b1), .map (some b2), .map (some b3)] 45)) = W0 := ⟨_, rfl⟩
  have r0 : W0.heap[w.heap.size + 1]? = some (.cells #[.map (some b1), .map (some b2), .map (some b3)] 45 (0, 0)) := by rw [← hW0]; exact heap_alloc2_new _ _ _
  have B0 : Hid (Below w.heap.size w W0) := Lib.hid (by rw [← hW0]; exact ((Below.refl _ _).alloc (Nat.le_refl _) _).alloc (by simp) _)
  have s0 : W0.heap.size = w.heap.size + 2 := by rw [← hW0]; simp
  rw [hW0]
  clear hW0
  have PM : Hid (∀ k, Mp W0 (pick3 b1 b2 b3 k) (pick3 o a b k)) := Lib.hid (fun k => by
    match k with
    | 0 => exact H1.out.below B0.out
    | 1 => exact H2.out.below B0.out
    | k + 2 => exact H3.out.below B0.out)
  have PC : Hid (∀ k, k < 3 → W0.cell? ⟨w.heap.size + 1, k, none⟩ = some (.map (some (pick3 b1 b2 b3 k)))) := Lib.hid (fun k hk => by
    rw [cell_of_row W0 _ _ _ _ _ r0]
    match k with
    | 0 => rfl
    | 1 => rfl
    | 2 => rfl
    | k + 3 => omega)
  clear r0
  go_loopw [3, 15] (fun s3 s15 wr => ∃ (k : Nat) (ss : List (List UInt8)), s15 = .int .i64 k ∧ k ≤ 3 ∧ wr.ownsRow W0.heap.size 9 1 s3 ss.length (ss.map encStr) ∧ ss.length ≤ k * 1001 ∧ (∀ x, x ∈ ss ↔ seen3 o a b k x) ∧ Below W0.heap.size W0 wr) (fun _ s15 _ => 3 - (Go.RowKit.intOf s15).toNat)
  case atStart => exact ⟨0, [], rfl, by omega, World.ownsRow_nil _ _ _ _, by simp, fun x => by simp [seen3], Below.refl _ _⟩
  case round =>
    obtain ⟨k, ss, rfl, hk, ho, hl, hm, hb⟩ := hrel
    have HO := Lib.hid ho
    have HM := Lib.hid hm
    have HB := Lib.hid hb
    have hbs := hb.size
    clear ho hm hb
    by_cases hlt : k < 3
    · have hkz : (k : Int) < 3 := by omega
      have ck := (HB.out.cell (p := ⟨w.heap.size + 1, k, none⟩) (show w.heap.size + 1 < W0.heap.size by omega)).trans (PC.out k hlt)
      obtain ⟨n, D, hn, hG⟩ := (PM.out k).below HB.out
      have hblt : pick3 b1 b2 b3 k < W0.heap.size := (PM.out k).lt
      obtain ⟨bk, hbk⟩ : ∃ bk, pick3 b1 b2 b3 k = bk := ⟨_, rfl⟩
      rw [hbk] at ck hG hblt
      have HG := Lib.hid hG
      clear hG hbk
      repeat (first
        | (at_range; refine wpList_range_own _ rfl _ 45 rfl _ _ lawS Tryz.underlying45 _ bk n D rfl HG.out.map ?_; intro w0 hrg0 hg0 hs0; have RG0 := Lib.hid hrg0; have GG0 := Lib.hid hg0; clear hrg0 hg0)
        | go_skip | go_guarded | go_step | go_upon)
      go_frame
      have hsz0 : w0.heap.size = wr.heap.size + 1 := hs0
      clear hs0
      have hwr : wr.heap.size ≤ w0.heap.size := by omega
      obtain ⟨ri, hri⟩ : ∃ ri, wr.heap.size = ri := ⟨_, rfl⟩
      rw [hri] at RG0 hsz0
      rw [hri]
      have HO0 := Lib.hid (owns_below HO.out ⟨GG0.out.os, GG0.out.tape, GG0.out.output, GG0.out.size, fun k hk => GG0.out.block k hk (by simp)⟩)
      have B00 : Hid (Below W0.heap.size W0 w0) := Lib.hid (HB.out.grown GG0.out hbs (fun j hj => by cases hj))
      go_loopw [3] (fun s3 wi => ∃ (left : Lit → Bool) (cnt : Nat) (cs : List (List UInt8)), wi.ranges Tryz.prog 9 Rh bk ri n D left cnt ∧ cs.length + cnt ≤ Maps.size D ∧ wi.ownsRow W0.heap.size 9 1 s3 (ss ++ cs).length ((ss ++ cs).map encStr) ∧ Collected D left cs ∧ Below W0.heap.size W0 wi) (fun _ wi => wi.rangeLeft bk ri)
      case atStart => exact ⟨_, _, [], RG0.out, by simp, by rw [List.append_nil]; exact HO0.out, Collected.start D, B00.out⟩
      case round =>
        obtain ⟨left, cnt, cs, hrg, hcs, hrow, hC, hbi⟩ := hrel
        have hMs := HG.out.map.size_le
        have hbis := hbi.size
        repeat (first
          | (at_next; refine wpList_next_ranges _ rfl _ rfl 9 lawS Rh encStr (fun v : Value => v) (fun key kl hk => by obtain ⟨x, hx, _⟩ := Maps.keyOf_str Tryz.underlying9 hk; exact ⟨x, hx⟩) (fun v y hv => ⟨v, rfl⟩) bk ri n _ _ _ rfl hrg ?_ ?_)
          | go_skip | go_guarded | go_step | go_upon)
        · intro hc0 hl0
          have HR := Lib.hid hrow
          have HC := Lib.hid hC
          have HBI := Lib.hid hbi
          clear hrow hC hbi hrg
          repeat (first | go_skip | go_guarded | go_step | go_upon)
          refine ⟨⟨k + 1, ss ++ cs, by go_num, by omega, HR.out, ?_, fun z => ?_, HBI.out⟩, by simp [Go.RowKit.intOf]; omega⟩
          · rw [List.length_append]
            omega
          · rw [List.mem_append, HM.out z, HC.out.2 z, hl0, HG.out.key z]
            constructor
            · rintro (⟨j, hj, e⟩ | ⟨e, _⟩)
              · exact ⟨j, by omega, e⟩
              · exact ⟨k, by omega, of_decide_eq_true e⟩
            · rintro ⟨j, hj, e⟩
              by_cases h2 : j = k
              · subst h2
                exact .inr ⟨decide_eq_true e, rfl⟩
              · exact .inl ⟨j, by omega, e⟩
        · intro x c kl y w2 cnt2 hkey hlk hv hat hrg2 hlt2 hg2 hs2 hen
          obtain ⟨x', ex, rfl, _⟩ := Maps.keyOf_str Tryz.underlying9 hkey
          obtain rfl : x = x' := encStr_inj ex
          have hrow2 := Lib.hid (hrow.kept hg2 (Or.inr (row_ne_iter hrow hrg).symm))
          have HC := Lib.hid (hC.step hlk hat)
          have B2 := Lib.hid (hbi.grown hg2 hbis (fun j hj => by injection hj with hj; omega))
          have RG2 := Lib.hid hrg2
          have hw2 : wr.heap.size ≤ w2.heap.size := hg2.size
          have hle := hrg.left_eq
          clear hs2 hg2 hrow hC hbi hrg hrg2 hv hat hlk hkey
          repeat (first
            | (at_builtin; refine wpList_append_own _ rfl _ _ 59 rfl W0.heap.size 9 i0 (.string ⟨#[]⟩) 1 16 Tryz.underlying59 hi hz0 hz1 hz2 rfl (by decide) _ _ _ rfl (hrow2.out.alloc _) ⟨w2.heap.size, 0, none⟩ 1 1 [encStr x] rfl rfl (one_new _ _ _) (by simp [Value.oneCell', encStr]) (by simp only [List.length_append]; unfold maxLen; omega) (by simp only [List.length_append]; omega) (by simp; omega) ?_; intro v' w3 hown' hg3 _; have RO := Lib.hid hown'; have RG := Lib.hid hg3; clear hown' hg3)
            | go_skip | go_guarded | go_step | go_upon)
          have rg3 := (RG2.out.alloc (.cells #[encStr x] 9)).kept RG.out (row_ne_low (hrow2.out.alloc (.cells #[encStr x] 9)) hblt) (row_ne_iter (hrow2.out.alloc (.cells #[encStr x] 9)) (RG2.out.alloc (.cells #[encStr x] 9)))
          have b3 := (B2.out.alloc (show W0.heap.size ≤ w2.heap.size by omega) (.cells #[encStr x] 9)).grown RG.out (by simp; omega) (fun j hj => (hrow2.out.lt j hj).1)
          refine ⟨⟨_, cnt2, cs ++ [x], rg3, by simp; omega, ?_, HC.out, b3⟩, by rw [rg3.left_eq, hle]; exact hlt2⟩
          have h5 := RO.out
          rw [show (ss ++ (cs ++ [x])).length = (ss ++ cs).length + 1 by simp [Nat.add_assoc], show (ss ++ (cs ++ [x])).map encStr = (ss ++ cs).map encStr ++ [encStr x] by simp]
          exact h5
    · have hkz : ¬ (k : Int) < 3 := by omega
      have hk3 : k = 3 := by omega
      have HEnd : Hid (Lib.compact (ss.mergeSort fun x y => decide (x ≤ y)) = namesK o a b) := Lib.hid (ord_sort ss _ (fun x => by
        rw [HM.out x, hk3]
        simp only [List.mem_append, mem_keys]
        constructor
        · rintro ⟨j, hj, e⟩
          match j, hj with
          | 0, _ => exact .inl (.inl e)
          | 1, _ => exact .inl (.inr e)
          | 2, _ => exact .inr e
        · rintro ((e | e) | e)
          · exact ⟨0, by omega, e⟩
          · exact ⟨1, by omega, e⟩
          · exact ⟨2, by omega, e⟩))
      have BZ : Hid (Below w.heap.size w wr) := Lib.hid (Below.trans B0.out (HB.out.mono B0.out.size))
      rcases HO.out.2 with ⟨hnil, hz⟩ | ⟨g, cap, cur, hv, hbase, hbk, h1, h2, h3, h4⟩
      · subst hnil
        have hs : ss = [] := List.eq_nil_of_length_eq_zero hz
        subst hs
        have CS := Lib.hid (Tryz.slices_Sort_string_none none 0 wr)
        have CC := Lib.hid (Tryz.slices_Compact_string_empty none 0 wr)
        repeat (first
          | (go_at_call 43; refine CS.out.mono ?_; rintro r w1 ⟨rfl, rfl⟩; simp only [])
          | (go_at_call 44; refine CC.out.mono ?_; rintro r w1 ⟨rfl, rfl⟩; simp only [])
          | go_skip | go_guarded | go_step | go_upon)
        go_ret
        have he := HEnd.out
        have hc0 : Lib.compact (([] : List (List UInt8)).mergeSort fun x y => decide (x ≤ y)) = [] := by simp [Lib.compact, compactUpTo]
        rw [hc0] at he
        exact ⟨_, rfl, by rw [← he]; exact World.ownsRow_nil _ _ _ _, BZ.out⟩
      · subst hv
        have hss : ss.length ≤ 3003 := by omega
        obtain ⟨zs, hzs⟩ : ∃ zs, (ss.mergeSort fun x y => decide (x ≤ y)) = zs := ⟨_, rfl⟩
        have hzl : zs.length = ss.length := by rw [← hzs]; simp
        rw [hzs] at HEnd
        have hH : Holds encStr wr g 0 ss.toArray := holds_of_block hbk (by simpa using h4)
        have hgl : g < wr.heap.size := (Array.getElem?_eq_some_iff.1 hbk).1
        have CS := Tryz.slices_Sort_string g 0 cap ss wr hH hgl (by omega)
        rw [hzs] at CS
        have CSH := Lib.hid CS
        have HBK := Lib.hid hbk
        obtain ⟨L, hL⟩ : ∃ L, ss.length = L := ⟨_, rfl⟩
        rw [hL] at CSH hzl h1
        rw [hL]
        clear CS hH hbk h4 HO
        repeat (first
          | (go_at_call 43; refine CSH.out.mono ?_; rintro r w1 ⟨rfl, nn, os, hw1⟩; simp only []; have HW1 := Lib.hid hw1; clear hw1)
          | (go_at_call 44; fail)
          | go_skip | go_guarded | go_step | go_upon)
        have hb1 := heap_sorted (n := nn) (os := os) zs.toArray HBK.out
        have g1 : wr.grownBy (grow (putRow encStr (Sort.ahead wr nn) g 0 zs.toArray) os) (some g) := grownBy_sorted _
        rw [← HW1.out] at hb1 g1
        have hH1 : Holds encStr w1 g 0 zs.toArray := holds_of_block hb1 (take_putCells cur zs (by omega))
        have CC := Tryz.slices_Compact_string g 0 cap zs w1 hH1 (by omega) (by omega)
        rw [hzl] at CC
        have CCH := Lib.hid CC
        have b1 := BZ.out.grown g1 BZ.out.size (fun j hj => by injection hj with hj; have := B0.out.size; omega)
        clear CC hH1
        refine CCH.out.mono ?_
        rintro r w2 ⟨rfl, q, hw2⟩
        simp only []
        have hcl : (Lib.compact zs).length ≤ zs.length := by
          unfold Lib.compact compactUpTo
          rw [List.length_map]
          have := List.length_filter_le (keeps zs.toArray) (List.range zs.length)
          rw [List.length_range] at this
          exact this
        have hro := compact_row (q := q) hbase hb1 (by omega) h2 (by simp [putCells, h3]) hcl
        have g2 : w1.grownBy (grow (putRow encStr (Sort.ahead w1 q) g 0 (Lib.compact zs ++ List.replicate (zs.length - (Lib.compact zs).length) []).toArray) #[]) (some g) := grownBy_sorted _
        rw [grow_empty] at g2
        rw [hzl] at hro g2
        rw [← hw2] at hro g2
        have b2 := b1.grown g2 b1.size (fun j hj => by injection hj with hj; have := B0.out.size; omega)
        rw [HEnd.out] at hro ⊢
        have HR := Lib.hid hro
        have HB2 := Lib.hid b2
        clear hro b2 b1 g1 g2 hb1 hw2
        repeat (first | go_skip | go_guarded | go_step | go_upon)
        go_ret
        exact ⟨_, rfl, owns_base HR.out _ B0.out.size, HB2.out⟩
end RC
end Go.Proofs.YtmpmmebmhffaeaaGreatDoor
