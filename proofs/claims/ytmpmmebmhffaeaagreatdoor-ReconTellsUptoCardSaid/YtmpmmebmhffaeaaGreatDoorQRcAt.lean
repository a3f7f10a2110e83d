/- Layer 12: the contract of tree.At (cut of stage 6). -/
import Derived.Test.YtmpmmebmhffaeaaGreatDoorQRcD
import Derived.Test.YtmpmmebmhffaeaaGreatDoorQRcWit
set_option linter.all false
set_option maxRecDepth 100000
set_option maxHeartbeats 25600000
namespace Go.Proofs.YtmpmmebmhffaeaaGreatDoor
open Go.RowKit Go.Lib Go.BigFrame
namespace RC
open OM TP TM TR TG TW

theorem within_calls {ao : Option Addr} {cap : Nat} {ts : List Nd} {p : List UInt8} {w : World} (he : NF.Env w) (h : LayN w ao ts) (hs : SmallG ts) (hp : p.length ≤ 1048576) (ht : treeB ts = true) :
    ∀ W, Below w.heap.size w W → Calls Tryz.prog 39 #[.slice ao ts.length cap, txt p] W (CutPost ts p W) := fun W hW =>
  within_any ao cap ts p W (he.below hW) (h.below hW) ((tree_iff ts).1 ht).sorted ((tree_iff ts).1 ht).path hs ((tree_iff ts).1 ht).len hp
def atP (p : List UInt8) : List Nd := if p = [] then [root] else []
def atG (B : List Nd) (p : List UInt8) (k : Nat) : List Nd := atP p ++ (B.take k).map (trimN p)
theorem atG_zero (B : List Nd) (p : List UInt8) : atG B p 0 = atP p := by unfold atG; simp
theorem atG_succ {B : List Nd} {p : List UInt8} {k : Nat} {x : Nd} (hx : B[k]? = some x) : atG B p (k + 1) = atG B p k ++ [trimN p x] := by
  unfold atG
  rw [List.take_add_one, hx, Option.toList_some, List.map_append, List.append_assoc]
  rfl
theorem atG_len (B : List Nd) (p : List UInt8) (k : Nat) : (atG B p k).length ≤ k + 1 := by
  unfold atG atP
  rw [List.length_append, List.length_map, List.length_take]
  split <;> simp <;> omega
theorem at_cut {ts : List Nd} {p : List UInt8} {i j : Nat} (ht : treeB ts = true) (h : Cut ts p i j) : atL ts p = atG ((ts.take j).drop i) p (j - i) := by
  rw [h.at ((tree_iff ts).1 ht)]
  unfold atG
  rw [List.take_of_length_le (l := (ts.take j).drop i)]
  · rfl
  · have := h.le
    rw [List.length_drop, List.length_take]
    omega
theorem at_not {ts : List Nd} {p : List UInt8} (h : treeB ts = false) : atL ts p = [] := by
  unfold atL
  rw [if_neg (by rw [h]; simp)]
set_option maxRecDepth 100000 in
set_option maxHeartbeats 6400000 in
theorem at_any (ao : Option Addr) (cap : Nat) (ts : List Nd) (p : List UInt8) (w : World) (he : NF.Env w) (h : LayN w ao ts) (hs : SmallG ts) (hl : ts.length ≤ maxLen) (hcap : ts.length ≤ cap) (hp : p.length ≤ 1048576) :
    Calls Tryz.prog 22 #[.slice ao ts.length cap, txt p] w (AtPost (atL ts p) w) := by
  obtain ⟨i0, hi, hz0, hz1, hz2⟩ := info_parts infoN
  have cC := check_any ao cap ts w he h hs hl hcap
  have cW := fun ht => within_calls (cap := cap) he h hs hp ht
  obtain ⟨n, hn⟩ : ∃ n, ts.length = n := ⟨_, rfl⟩
  have HN := Lib.hid hn
  have HL := Lib.hid h
  have HSm := Lib.hid hs
  unfold maxLen at hl
  rw [hn] at hl cC cW hcap ⊢
  have hnz : (n : Int) ≤ 9223372036854775807 := by omega
  obtain ⟨S, hS, hSd⟩ := txt_of p
  have HS := Lib.hid hSd
  rw [hS] at cW ⊢
  obtain ⟨E, hE⟩ : ∃ E : Nat, checkG ts = E := ⟨_, rfl⟩
  have hE0 := checkG_zero ts
  rw [hE] at cC hE0
  have CC := Lib.hid cC
  have CW := Lib.hid cW
  by_cases hE1 : (E : Int) = 0
  · have hEb : ((E : Int) != 0) = false := by simp [hE1]
    have ht := hE0.1 hE1
    have h1000 : n ≤ 1000 := by have := ((tree_iff ts).1 ht).len; omega
    have HT := Lib.hid ht
    by_cases p0 : p = []
    · have hSe : S.toList.isEmpty = true := by rw [Lib.toList_data, hSd, p0]; rfl
      have HP : Hid (atP p = [root]) := Lib.hid (if_pos p0)
      clear h hn hS hSd hl cC cW hE hs hE0 hE1 ht he hp p0
      go_enter Tryz.func22, Tryz.ntmps22
      repeat (first
        | (go_at_call 20; refine CC.out.mono ?_; rintro r w1 ⟨rfl, hb⟩; simp only []; have B0 := Lib.hid hb; have hs0 := hb.size; clear hb)
        | (at_builtin; refine wpList_append_own _ rfl _ _ 22 rfl w.heap.size 40 i0 (ndVal zeroN) 4 48 Tryz.underlying22 hi hz0 hz1 hz2 rfl (by decide) (.slice none 0 0) 0 [] rfl (World.ownsRow_nil _ _ _ _) ⟨w1.heap.size, 0, none⟩ 1 1 (ndCells root) rfl rfl (four_new _ _ rfl root _ _ rfl rfl _) (nd_one _) (by unfold maxLen; omega) (by omega) (by simp; omega) ?_; intro v5 w5 hown' hgrow5 hnil5; have HV := Lib.hid hown'; have B1 := Lib.hid ((B0.out.alloc hs0 (.cells #[.string ⟨#[]⟩, .int .i64 2, .string ⟨#[]⟩, .int .i64 0] 40)).grown hgrow5 (by simp; omega) (fun j hj => by simp [Value.ownBlock] at hj)); clear hown' hgrow5 hnil5)
        | (go_at_call 39; fail) | go_skip | go_guarded | go_step | go_upon)
      refine (CW.out HT.out _ B1.out).mono ?_
      rintro r w2 ⟨i, j, rfl, hcut, hb⟩
      simp only []
      have B2 := Lib.hid (Below.trans B1.out (hb.mono B1.out.size))
      have HS0 : Hid (w2.ownsRow w.heap.size 40 4 v5 1 (nodesC [root])) := Lib.hid (owns_below HV.out hb)
      obtain ⟨ao', c', hsl, hlay, hc', _⟩ := sl_lh ndsl_node ao ts n i j cap hcut.ij (by have := hcut.le; have := HN.out; omega)
      have HLB : Hid (∀ W, Below w.heap.size w W → LayN W ao' ((ts.take j).drop i)) := Lib.hid (fun W hW => hlay W (HL.out.below hW))
      obtain ⟨B, hB⟩ : ∃ B, (ts.take j).drop i = B := ⟨_, rfl⟩
      have HF := Lib.hid (at_cut HT.out hcut)
      obtain ⟨q, hq⟩ : ∃ q, j - i = q := ⟨_, rfl⟩
      have hBq : B.length = q := by
        have := hcut.le
        have := hcut.ij
        rw [← hB, List.length_drop, List.length_take]
        omega
      have HBq := Lib.hid hBq
      have hq1 : q ≤ 1000 := by have := hcut.le; have := HN.out; omega
      rw [hB] at HLB HF
      rw [hq] at hsl HF
      have hcl : i ≤ j := hcut.ij
      have hjc : j ≤ cap := by have := hcut.le; have := HN.out; omega
      clear hb hcut hlay hc' hB hBq hq
      repeat (first | go_skip | go_guarded | go_step | go_upon)
      go_loopw [5, 30] (fun s5 s30 wr => ∃ k : Nat, s30 = .int .i64 k ∧ k ≤ q ∧ wr.ownsRow w.heap.size 40 4 s5 (atG B p k).length (nodesC (atG B p k)) ∧ Below w.heap.size w wr) (fun _ s30 _ => q - (Go.RowKit.intOf s30).toNat)
      case atStart => exact ⟨0, rfl, Nat.zero_le _, by rw [atG_zero, HP.out]; exact HS0.out, B2.out⟩
      case round =>
        obtain ⟨k, rfl, hk, ho, hb⟩ := hrel
        have HO := Lib.hid ho
        have HB := Lib.hid hb
        have hbs := hb.size
        have HKl := Lib.hid (atG_len B p k)
        have hLr := HLB.out _ hb
        clear ho hb
        by_cases hlt : k < q
        · have hkz : (k : Int) < q := by omega
          obtain ⟨g, o, rfl, hg, hcell⟩ := hLr (by rw [HBq.out]; omega)
          obtain ⟨x, hx⟩ : ∃ x, B[k]? = some x := ⟨B[k]'(by rw [HBq.out]; exact hlt), List.getElem?_eq_getElem _⟩
          obtain ⟨c0, c1, c2, c3⟩ := hcell k x hx
          obtain ⟨X, hX, hXd⟩ := txt_of x.path
          obtain ⟨D, hD, _⟩ := txt_of x.data
          obtain ⟨T1, hT1, hT1d⟩ := txt_of (Lib.trimPrefix x.path p)
          obtain ⟨T, hT, hTd⟩ := txt_of (Lib.trimPrefix (Lib.trimPrefix x.path p) [47])
          have CT1 := Lib.hid (trim_txt X S T1 x.path p hXd HS.out hT1d)
          have CT2 := Lib.hid (trim_txt T1 ⟨#[47]⟩ T (Lib.trimPrefix x.path p) [47] hT1d rfl hTd)
          rw [hX] at c0
          rw [hD] at c2
          have HK := Lib.hid (atG_succ (p := p) hx)
          have HNew : Hid (∀ (j : Nat) (u : Value), (ndCells (trimN p x))[j]? = some u → ((wr.alloc (.cells #[.string T, .int .i64 x.kind, .string D, .int .i64 x.mode] 40)).alloc (.cells #[.string T, .int .i64 x.kind, .string D, .int .i64 x.mode] 40)).cell? ((⟨wr.heap.size + 1, 0, none⟩ : Addr).add j) = some u) := Lib.hid (four_new _ _ (by simp) (trimN p x) _ _ hT hD _)
          clear hX hXd hD hT1 hT1d hT hTd hx hcell hLr
          repeat (first
            | (go_at_call_of 40 (Value.string X); refine (CT1.out _).mono ?_; rintro r w3 ⟨rfl, rfl⟩; simp only [])
            | (go_at_call_of 40 (Value.string T1); refine (CT2.out _).mono ?_; rintro r w4 ⟨rfl, rfl⟩; simp only [])
            | (at_builtin; refine wpList_append_own _ rfl _ _ 22 rfl w.heap.size 40 i0 (ndVal zeroN) 4 48 Tryz.underlying22 hi hz0 hz1 hz2 rfl (by decide) _ _ _ rfl ((HO.out.alloc _).alloc _) ⟨wr.heap.size + 1, 0, none⟩ 1 1 (ndCells (trimN p x)) rfl rfl HNew.out (nd_one _) (by have := HKl.out; unfold maxLen; omega) (by have := HKl.out; omega) (by simp; omega) ?_; intro v' w5 hown' hgrow5 hnil5; have HO5 := Lib.hid hown'; have HB5 := Lib.hid (((HB.out.alloc hbs _).alloc (by simp; omega) _).grown hgrow5 (by simp; omega) (fun j hj => (HO.out.lt j hj).1)); clear hown' hgrow5 hnil5)
            | go_skip | go_guarded | go_step | go_upon)
          refine ⟨⟨k + 1, by go_num, by omega, ?_, HB5.out⟩, by simp [Go.RowKit.intOf]; omega⟩
          rw [HK.out, List.length_append, List.length_singleton, nodes_snoc]
          exact HO5.out
        · have hkz : ¬ (k : Int) < q := by omega
          have hkq : k = q := by omega
          have HK : Hid (atL ts p = atG B p k) := Lib.hid (by rw [HF.out, hkq])
          clear hlt hkq
          repeat (first | go_skip | go_guarded | go_step | go_upon)
          go_ret
          exact ⟨_, rfl, by rw [HK.out]; exact HO.out, HB.out⟩
    · have hSe : S.toList.isEmpty = false := by rw [Lib.toList_data, hSd]; simpa using p0
      have HP : Hid (atP p = []) := Lib.hid (if_neg p0)
      clear h hn hS hSd hl cC cW hE hs hE0 hE1 ht he hp p0
      go_enter Tryz.func22, Tryz.ntmps22
      repeat (first
        | (go_at_call 20; refine CC.out.mono ?_; rintro r w1 ⟨rfl, hb⟩; simp only []; have B1 := Lib.hid hb; clear hb)
        | (go_at_call 39; fail) | go_skip | go_guarded | go_step | go_upon)
      refine (CW.out HT.out _ B1.out).mono ?_
      rintro r w2 ⟨i, j, rfl, hcut, hb⟩
      simp only []
      have B2 := Lib.hid (Below.trans B1.out (hb.mono B1.out.size))
      have HS0 : Hid (w2.ownsRow w.heap.size 40 4 (.slice none 0 0) 0 (nodesC [])) := Lib.hid (World.ownsRow_nil _ _ _ _)
      obtain ⟨ao', c', hsl, hlay, hc', _⟩ := sl_lh ndsl_node ao ts n i j cap hcut.ij (by have := hcut.le; have := HN.out; omega)
      have HLB : Hid (∀ W, Below w.heap.size w W → LayN W ao' ((ts.take j).drop i)) := Lib.hid (fun W hW => hlay W (HL.out.below hW))
      obtain ⟨B, hB⟩ : ∃ B, (ts.take j).drop i = B := ⟨_, rfl⟩
      have HF := Lib.hid (at_cut HT.out hcut)
      obtain ⟨q, hq⟩ : ∃ q, j - i = q := ⟨_, rfl⟩
      have hBq : B.length = q := by
        have := hcut.le
        have := hcut.ij
        rw [← hB, List.length_drop, List.length_take]
        omega
      have HBq := Lib.hid hBq
      have hq1 : q ≤ 1000 := by have := hcut.le; have := HN.out; omega
      rw [hB] at HLB HF
      rw [hq] at hsl HF
      have hcl : i ≤ j := hcut.ij
      have hjc : j ≤ cap := by have := hcut.le; have := HN.out; omega
      clear hb hcut hlay hc' hB hBq hq
      repeat (first | go_skip | go_guarded | go_step | go_upon)
      go_loopw [5, 30] (fun s5 s30 wr => ∃ k : Nat, s30 = .int .i64 k ∧ k ≤ q ∧ wr.ownsRow w.heap.size 40 4 s5 (atG B p k).length (nodesC (atG B p k)) ∧ Below w.heap.size w wr) (fun _ s30 _ => q - (Go.RowKit.intOf s30).toNat)
      case atStart => exact ⟨0, rfl, Nat.zero_le _, by rw [atG_zero, HP.out]; exact HS0.out, B2.out⟩
      case round =>
        obtain ⟨k, rfl, hk, ho, hb⟩ := hrel
        have HO := Lib.hid ho
        have HB := Lib.hid hb
        have hbs := hb.size
        have HKl := Lib.hid (atG_len B p k)
        have hLr := HLB.out _ hb
        clear ho hb
        by_cases hlt : k < q
        · have hkz : (k : Int) < q := by omega
          obtain ⟨g, o, rfl, hg, hcell⟩ := hLr (by rw [HBq.out]; omega)
          obtain ⟨x, hx⟩ : ∃ x, B[k]? = some x := ⟨B[k]'(by rw [HBq.out]; exact hlt), List.getElem?_eq_getElem _⟩
          obtain ⟨c0, c1, c2, c3⟩ := hcell k x hx
          obtain ⟨X, hX, hXd⟩ := txt_of x.path
          obtain ⟨D, hD, _⟩ := txt_of x.data
          obtain ⟨T1, hT1, hT1d⟩ := txt_of (Lib.trimPrefix x.path p)
          obtain ⟨T, hT, hTd⟩ := txt_of (Lib.trimPrefix (Lib.trimPrefix x.path p) [47])
          have CT1 := Lib.hid (trim_txt X S T1 x.path p hXd HS.out hT1d)
          have CT2 := Lib.hid (trim_txt T1 ⟨#[47]⟩ T (Lib.trimPrefix x.path p) [47] hT1d rfl hTd)
          rw [hX] at c0
          rw [hD] at c2
          have HK := Lib.hid (atG_succ (p := p) hx)
          have HNew : Hid (∀ (j : Nat) (u : Value), (ndCells (trimN p x))[j]? = some u → ((wr.alloc (.cells #[.string T, .int .i64 x.kind, .string D, .int .i64 x.mode] 40)).alloc (.cells #[.string T, .int .i64 x.kind, .string D, .int .i64 x.mode] 40)).cell? ((⟨wr.heap.size + 1, 0, none⟩ : Addr).add j) = some u) := Lib.hid (four_new _ _ (by simp) (trimN p x) _ _ hT hD _)
          clear hX hXd hD hT1 hT1d hT hTd hx hcell hLr
          repeat (first
            | (go_at_call_of 40 (Value.string X); refine (CT1.out _).mono ?_; rintro r w3 ⟨rfl, rfl⟩; simp only [])
            | (go_at_call_of 40 (Value.string T1); refine (CT2.out _).mono ?_; rintro r w4 ⟨rfl, rfl⟩; simp only [])
            | (at_builtin; refine wpList_append_own _ rfl _ _ 22 rfl w.heap.size 40 i0 (ndVal zeroN) 4 48 Tryz.underlying22 hi hz0 hz1 hz2 rfl (by decide) _ _ _ rfl ((HO.out.alloc _).alloc _) ⟨wr.heap.size + 1, 0, none⟩ 1 1 (ndCells (trimN p x)) rfl rfl HNew.out (nd_one _) (by have := HKl.out; unfold maxLen; omega) (by have := HKl.out; omega) (by simp; omega) ?_; intro v' w5 hown' hgrow5 hnil5; have HO5 := Lib.hid hown'; have HB5 := Lib.hid (((HB.out.alloc hbs _).alloc (by simp; omega) _).grown hgrow5 (by simp; omega) (fun j hj => (HO.out.lt j hj).1)); clear hown' hgrow5 hnil5)
            | go_skip | go_guarded | go_step | go_upon)
          refine ⟨⟨k + 1, by go_num, by omega, ?_, HB5.out⟩, by simp [Go.RowKit.intOf]; omega⟩
          rw [HK.out, List.length_append, List.length_singleton, nodes_snoc]
          exact HO5.out
        · have hkz : ¬ (k : Int) < q := by omega
          have hkq : k = q := by omega
          have HK : Hid (atL ts p = atG B p k) := Lib.hid (by rw [HF.out, hkq])
          clear hlt hkq
          repeat (first | go_skip | go_guarded | go_step | go_upon)
          go_ret
          exact ⟨_, rfl, by rw [HK.out]; exact HO.out, HB.out⟩
  · have hEb : ((E : Int) != 0) = true := by simp; omega
    have HF := Lib.hid (at_not (ts := ts) (p := p) (by cases ht : treeB ts with | false => rfl | true => exact absurd (hE0.2 ht) hE1))
    clear h hn hS hSd hl cC cW hE hs hE0 hE1 he hp
    go_enter Tryz.func22, Tryz.ntmps22
    repeat (first | (go_at_call 20; refine CC.out.mono ?_; rintro r w1 ⟨rfl, hb⟩; simp only []; have B1 := Lib.hid hb; clear hb) | go_skip | go_guarded | go_step | go_upon)
    go_ret
    exact AtPost.nil HF.out B1.out
end RC
end Go.Proofs.YtmpmmebmhffaeaaGreatDoor
