/- Layer 6: the contract of the document's At (cut of stage 6). -/
import Derived.Test.YtmpmmebmhffaeaaGreatDoorQRcT
import Derived.Test.YtmpmmebmhffaeaaGreatDoorQBase
import Derived.Test.YtmpmmebmhffaeaaGreatDoorQArMake
import Derived.Laws.AppendOwnNone
import Derived.Laws.Strings3
set_option linter.all false
set_option maxRecDepth 100000
set_option maxHeartbeats 25600000
namespace Go.Proofs.YtmpmmebmhffaeaaGreatDoor
open Go.RowKit Go.Lib Go.BigFrame
namespace TR
open OM TP TM

theorem tree_no {ts : List Nd} (h : ¬ ((checkE ts : Nat) : Int) = 0) : treeB ts = false := by
  cases ht : treeB ts with
  | false => rfl
  | true => exact absurd ((checkE_zero ts).2 ht) h
def atK (ts : List Nd) (p : List UInt8) (k : Nat) : List Nd := ((ts.take k).filter fun n => NP.withinL n.path p).map (cutN p)
theorem atK_yes {ts : List Nd} {p : List UInt8} {k : Nat} {x : Nd} (hx : ts[k]? = some x) (h : NP.withinL x.path p = true) : atK ts p (k + 1) = atK ts p k ++ [cutN p x] := by
  unfold atK
  rw [List.take_add_one, hx, Option.toList_some, List.filter_append, List.map_append]
  simp [h]
theorem atK_no {ts : List Nd} {p : List UInt8} {k : Nat} {x : Nd} (hx : ts[k]? = some x) (h : NP.withinL x.path p = false) : atK ts p (k + 1) = atK ts p k := by
  unfold atK
  rw [List.take_add_one, hx, Option.toList_some, List.filter_append, List.map_append]
  simp [h]
theorem atK_len (ts : List Nd) (p : List UInt8) (k : Nat) : (atK ts p k).length ≤ k := by
  unfold atK
  rw [List.length_map]
  have h1 := List.length_filter_le (fun n : Nd => NP.withinL n.path p) (ts.take k)
  rw [List.length_take] at h1
  omega
theorem str_from (S : ByteArray) (a : Nat) (za : Int) (ha : za = a) (h2 : a ≤ S.size) (W : World) :
    (Instr.slice 9 (.string S) (some (.int .i64 za)) none none).run Tryz.prog W = .ok (txt (S.data.toList.drop a)) W := by
  subst ha
  rw [run_slice_string_from_if W 9 S .i64 a Tryz.underlying9, if_pos (by omega)]
  unfold txt
  have e : (S.extract a S.size) = ⟨(S.data.toList.drop a).toArray⟩ := by
    apply ByteArray.ext
    apply Array.ext'
    rw [Lib.extract_data, List.take_of_length_le (by rw [List.length_drop, Lib.size_eq]; simp)]
  simp [e]
set_option maxRecDepth 100000 in
set_option maxHeartbeats 6400000 in
theorem rat_any (ao : Option Addr) (cap : Nat) (ts : List Nd) (p : List UInt8) (w : World) (h : LayN w ao ts) (hs : Small ts) (hl : ts.length ≤ maxLen) (hp : p.length ≤ 1048576) (hno : ao = none → cap = 0) :
    Calls Tryz.prog 50 #[.slice ao ts.length cap, txt p] w (AtPost (atL ts p) w) := by
  obtain ⟨i0, hi, hz0, hz1, hz2⟩ := info_parts infoN
  have cC := rcheck_any ao cap ts w h hs hl
  obtain ⟨n, hn⟩ : ∃ n, ts.length = n := ⟨_, rfl⟩
  have HN := Lib.hid hn
  have HL := Lib.hid h
  have HSm := Lib.hid hs
  unfold maxLen at hl
  rw [hn] at hl cC ⊢
  have hnz : (n : Int) ≤ 9223372036854775807 := by omega
  unfold txt
  obtain ⟨S, hS⟩ : ∃ S : ByteArray, ⟨p.toArray⟩ = S := ⟨_, rfl⟩
  have hSd : S.data.toList = p := by rw [← hS]
  have HS := Lib.hid hSd
  obtain ⟨pl, hpl⟩ : ∃ pl, p.length = pl := ⟨_, rfl⟩
  have hSz : S.size = pl := by rw [Lib.size_eq, hSd]; exact hpl
  have HPl := Lib.hid hpl
  have hplz : (pl : Int) ≤ 1048576 := by omega
  rw [hS]
  obtain ⟨E, hE⟩ : ∃ E : Nat, checkE ts = E := ⟨_, rfl⟩
  have hE0 := checkE_zero ts
  have hE1 := tree_no (ts := ts)
  rw [hE] at cC hE0 hE1
  have CC := Lib.hid cC
  by_cases e1 : (E : Int) = 0
  · have hEb : ((E : Int) != 0) = false := by simp [e1]
    have ht := (tree_iff ts).1 (hE0.1 e1)
    have HT := Lib.hid ht
    have n1000 : n ≤ 1000 := by have := ht.len; omega
    by_cases p0 : p = []
    · have hSe : S.toList.isEmpty = true := by rw [Lib.toList_data, hSd, p0]; rfl
      have HF : Hid (atL ts p = root :: ts) := Lib.hid (by unfold atL; rw [if_pos (hE0.1 e1), if_pos p0])
      cases ao with
      | none =>
        have hn0 : n = 0 := by
          rw [← hn]
          rcases Nat.eq_zero_or_pos ts.length with e | e
          · exact e
          · obtain ⟨g, o, h', _⟩ := h e
            cases h'
        have hc0 := hno rfl
        subst hn0 hc0
        have HT0 : Hid (ts = []) := Lib.hid (List.length_eq_zero_iff.1 hn)
        clear cC h hn hs hl hS hSd hpl hp hE hE0 hE1 e1 ht hno
        go_enter Tryz.func50, Tryz.ntmps50
        repeat (first
          | (go_at_call 28; refine CC.out.mono ?_; rintro r w1 ⟨rfl, hb⟩; simp only []; have B1 := Lib.hid hb; have HOw := Lib.hid (own_new w1 w.heap.size hb.size root (.string ⟨#[]⟩) (.string ⟨#[]⟩) rfl rfl); have hBs := hb.size; clear hb)
          | (at_builtin; refine wpList_append_own_none rfl _ _ 22 rfl w.heap.size 40 i0 4 Tryz.underlying22 hi _ _ _ rfl HOw.out rfl ?_)
          | go_skip | go_guarded | go_step | go_upon)
        go_ret
        refine ⟨_, rfl, ?_, B1.out.alloc hBs _⟩
        rw [HF.out, HT0.out]
        exact HOw.out
      | some ad =>
        have HNws : Hid (∀ W, Below w.heap.size w W → ∀ (j : Nat) (u : Value), (nodesC ts)[j]? = some u → W.cell? (ad.add j) = some u) := Lib.hid (fun W hW => lay_cells (h.below hW))
        have HNl : Hid ((nodesC ts).length = n * 4) := Lib.hid (by rw [nodes_len, hn])
        clear cC h hn hs hl hS hSd hpl hp hE hE0 hE1 e1 ht hno
        go_enter Tryz.func50, Tryz.ntmps50
        repeat (first
          | (go_at_call 28; refine CC.out.mono ?_; rintro r w1 ⟨rfl, hb⟩; simp only []; have B1 := Lib.hid hb; have HOw := Lib.hid (own_new w1 w.heap.size hb.size root (.string ⟨#[]⟩) (.string ⟨#[]⟩) rfl rfl); have hBs := hb.size; clear hb)
          | (at_builtin; refine wpList_append_own _ rfl _ _ 22 rfl w.heap.size 40 i0 (ndVal zeroN) 4 48 Tryz.underlying22 hi hz0 hz1 hz2 rfl (by decide) _ _ _ rfl HOw.out ad n cap (nodesC ts) rfl HNl.out (HNws.out _ (B1.out.alloc hBs _)) (nds_one ts) (by unfold maxLen; omega) (by omega) (by simp; omega) ?_; intro v' w5 hown' hgrow5 hnil5; have HO5 := Lib.hid hown'; have HB5 := Lib.hid ((B1.out.alloc hBs _).grown hgrow5 (by simp; omega) (fun j hj => (HOw.out.lt j hj).1)); clear hown' hgrow5 hnil5)
          | go_skip | go_guarded | go_step | go_upon)
        go_ret
        refine ⟨_, rfl, ?_, HB5.out⟩
        rw [HF.out, List.length_cons, HN.out, Nat.add_comm]
        exact HO5.out
    · have hSe : S.toList.isEmpty = false := by rw [Lib.toList_data, hSd]; simpa using p0
      have HF : Hid (atL ts p = atK ts p n) := Lib.hid (by unfold atL atK; rw [if_pos (hE0.1 e1), if_neg p0, ← hn, List.take_length])
      clear cC hn h hs hl hS hSd hpl hp hE hE0 hE1 e1 ht hno
      go_enter Tryz.func50, Tryz.ntmps50
      repeat (first | (go_at_call 28; refine CC.out.mono ?_; rintro r w1 ⟨rfl, hb⟩; simp only []; have B1 := Lib.hid hb; clear hb) | go_skip | go_guarded | go_step | go_upon)
      go_loopw [5, 6, 7, 8] (fun s5 s6 _ _ wr => ∃ k : Nat, s6 = .int .i64 k ∧ k ≤ n ∧ wr.ownsRow w.heap.size 40 4 s5 (atK ts p k).length (nodesC (atK ts p k)) ∧ Below w.heap.size w wr) (fun _ s6 _ _ _ => n - (Go.RowKit.intOf s6).toNat)
      case atStart => exact ⟨0, rfl, Nat.zero_le _, World.ownsRow_nil _ _ _ _, B1.out⟩
      case round =>
        obtain ⟨k, rfl, hk, ho, hb⟩ := hrel
        have HO := Lib.hid ho
        have HB := Lib.hid hb
        have hbs := hb.size
        have HLr := Lib.hid (HL.out.below hb)
        have HKl := Lib.hid (atK_len ts p k)
        clear ho hb
        by_cases hlt : k < n
        · have hkz : (k : Int) < n := by omega
          obtain ⟨g, o, rfl, hg, hcell⟩ := HLr.out (by rw [HN.out]; omega)
          obtain ⟨x, hx⟩ : ∃ x, ts[k]? = some x := ⟨ts[k]'(by rw [HN.out]; exact hlt), List.getElem?_eq_getElem _⟩
          have hmem := List.mem_of_getElem? hx
          have HNd := Lib.hid (hcell k x hx)
          obtain ⟨X, hX⟩ : ∃ X : ByteArray, txt x.path = .string X := ⟨_, rfl⟩
          obtain ⟨D, hD⟩ : ∃ D : ByteArray, txt x.data = .string D := ⟨_, rfl⟩
          have hXd : X.data.toList = x.path := by unfold txt at hX; injection hX with hX; rw [← hX]
          have hXs : X.size ≤ 1048576 := by rw [Lib.size_eq, hXd]; exact (HSm.out x hmem).1
          have HX := Lib.hid hX
          have HD := Lib.hid hD
          obtain ⟨x0, x1, x2, x3⟩ := hcell k x hx
          rw [hX] at x0
          rw [hD] at x2
          have hxp := HT.out.path x hmem
          by_cases he : x.path = p
          · have heb : (X.toList == S.toList) = true := by rw [Lib.toList_data, Lib.toList_data, hXd, HS.out, he]; simp
            have hw : NP.withinL x.path p = true := by rw [he] at hxp ⊢; exact within_self hxp
            have HK := Lib.hid (atK_yes hx hw)
            have HCut : Hid (cutN p x = ⟨[], x.kind, x.data, x.mode⟩) := Lib.hid (by unfold cutN; rw [if_pos he])
            clear hcell hX hD hXd hXs hxp he hw hx hmem
            have HNew : Hid (∀ (j : Nat) (u : Value), (ndCells (cutN p x))[j]? = some u → ((wr.alloc (.cells #[.string ⟨#[]⟩, .int .i64 x.kind, .string D, .int .i64 x.mode] 40)).alloc (.cells #[.string ⟨#[]⟩, .int .i64 x.kind, .string D, .int .i64 x.mode] 40)).cell? ((⟨wr.heap.size + 1, 0, none⟩ : Addr).add j) = some u) := Lib.hid (by
              rw [HCut.out]
              exact four_new _ _ (by simp) ⟨[], x.kind, x.data, x.mode⟩ _ _ rfl HD.out _)
            repeat (first
              | (at_builtin; refine wpList_append_own _ rfl _ _ 22 rfl w.heap.size 40 i0 (ndVal zeroN) 4 48 Tryz.underlying22 hi hz0 hz1 hz2 rfl (by decide) _ _ _ rfl ((HO.out.alloc _).alloc _) ⟨wr.heap.size + 1, 0, none⟩ 1 1 (ndCells (cutN p x)) rfl rfl HNew.out (nd_one _) (by have := HKl.out; unfold maxLen; omega) (by have := HKl.out; omega) (by simp; omega) ?_; intro v' w5 hown' hgrow5 hnil5; have HO5 := Lib.hid hown'; have HB5 := Lib.hid (((HB.out.alloc hbs _).alloc (by simp; omega) _).grown hgrow5 (by simp; omega) (fun j hj => (HO.out.lt j hj).1)); clear hown' hgrow5 hnil5)
              | go_skip | go_guarded | go_step | go_upon)
            refine ⟨⟨k + 1, by go_num, by omega, ?_, HB5.out⟩, by simp [Go.RowKit.intOf]; omega⟩
            rw [HK.out, List.length_append, List.length_singleton, nodes_snoc]
            exact HO5.out
          · have heb : (X.toList == S.toList) = false := by rw [Lib.toList_data, Lib.toList_data, hXd, HS.out]; simpa using he
            have CN : Hid (∀ W, Below wr.heap.size wr W → W.cell? ⟨g, o + k * 4, none⟩ = some (.string X) ∧ W.cell? ⟨g, o + k * 4 + 1, none⟩ = some (.int .i64 x.kind) ∧ W.cell? ⟨g, o + k * 4 + 2, none⟩ = some (.string D) ∧ W.cell? ⟨g, o + k * 4 + 3, none⟩ = some (.int .i64 x.mode)) := Lib.hid (fun W hW => by
              obtain ⟨y0, y1, y2, y3⟩ := HNd.out.below hg hW
              rw [HX.out] at y0
              rw [HD.out] at y2
              exact ⟨y0, y1, y2, y3⟩)
            have CW : Hid (∀ W, Calls Tryz.prog 71 #[.string X, .string S] W fun r w' => r = .returned (.bool (NP.withinL x.path p)) ∧ Below W.heap.size W w') := Lib.hid (fun W => by
              refine (R1.RO.rwithin_any X S W hXs (by rw [hSz]; have := hplz; omega)).mono ?_
              rintro r w' ⟨rfl, hb⟩
              rw [hXd, HS.out]
              exact ⟨rfl, hb⟩)
            cases hw : NP.withinL x.path p with
            | false =>
              rw [hw] at CW
              have HK := Lib.hid (atK_no hx hw)
              clear hcell hX hD hXd hXs hxp he hw hx hmem
              repeat (first
                | (go_at_call 71; refine (CW.out _).mono ?_; rintro r w3 ⟨rfl, hb⟩; simp only []; have W3 := Lib.hid hb; have HO3 := Lib.hid (owns_below HO.out hb); clear hb)
                | go_skip | go_guarded | go_step | go_upon)
              refine ⟨⟨k + 1, by go_num, by omega, ?_, Below.trans HB.out (W3.out.mono hbs)⟩, by simp [Go.RowKit.intOf]; omega⟩
              rw [HK.out]
              exact HO3.out
            | true =>
              rw [hw] at CW
              have HK := Lib.hid (atK_yes hx hw)
              have hlen : pl + 1 ≤ X.size := by
                obtain ⟨q, hq⟩ := (TP.within_iff hxp p0).1 hw
                rw [Lib.size_eq, hXd, hq]
                by_cases q0 : q = []
                · rw [q0, place_nil] at hq
                  exact absurd hq he
                · rw [place_ne p q0, List.length_append, List.length_cons, HPl.out]
                  omega
              obtain ⟨T, hT⟩ : ∃ T : ByteArray, txt (x.path.drop (pl + 1)) = .string T := ⟨_, rfl⟩
              have hsl := str_from X (pl + 1) ((pl : Int) + 1) (by omega) hlen
              rw [hXd, hT] at hsl
              have HCut : Hid (cutN p x = ⟨x.path.drop (pl + 1), x.kind, x.data, x.mode⟩) := Lib.hid (by unfold cutN; rw [if_neg he, HPl.out])
              have HNew : Hid (∀ w3 : World, ∀ (j : Nat) (u : Value), (ndCells (cutN p x))[j]? = some u → ((w3.alloc (.cells #[.string T, .int .i64 x.kind, .string D, .int .i64 x.mode] 40)).alloc (.cells #[.string T, .int .i64 x.kind, .string D, .int .i64 x.mode] 40)).cell? ((⟨w3.heap.size + 1, 0, none⟩ : Addr).add j) = some u) := Lib.hid (fun w3 => by
                rw [HCut.out]
                exact four_new _ _ (by simp) ⟨x.path.drop (pl + 1), x.kind, x.data, x.mode⟩ _ _ hT HD.out _)
              clear hcell hX hD hXd hXs hxp he hw hx hmem hT
              repeat (first
                | (go_at_call 71; refine (CW.out _).mono ?_; rintro r w3 ⟨rfl, hb⟩; simp only []; obtain ⟨e0, e1, e2, e3⟩ := CN.out _ hb; have W3 := Lib.hid hb; have HO3 := Lib.hid (owns_below HO.out hb); have hg3 : g < w3.heap.size := Nat.lt_of_lt_of_le hg hb.size; have HB3 := Lib.hid (Below.trans HB.out (hb.mono hbs)); have hs3 := HB3.out.size; clear hb)
                | (at_builtin; refine wpList_append_own _ rfl _ _ 22 rfl w.heap.size 40 i0 (ndVal zeroN) 4 48 Tryz.underlying22 hi hz0 hz1 hz2 rfl (by decide) _ _ _ rfl ((HO3.out.alloc _).alloc _) ⟨w3.heap.size + 1, 0, none⟩ 1 1 (ndCells (cutN p x)) rfl rfl (HNew.out _) (nd_one _) (by have := HKl.out; unfold maxLen; omega) (by have := HKl.out; omega) (by simp; omega) ?_; intro v' w5 hown' hgrow5 hnil5; have HO5 := Lib.hid hown'; have HB5 := Lib.hid (((HB3.out.alloc hs3 _).alloc (by simp; omega) _).grown hgrow5 (by simp; omega) (fun j hj => (HO3.out.lt j hj).1)); clear hown' hgrow5 hnil5)
                | go_skip | go_guarded | go_step | go_upon)
              refine ⟨⟨k + 1, by go_num, by omega, ?_, HB5.out⟩, by simp [Go.RowKit.intOf]; omega⟩
              rw [HK.out, List.length_append, List.length_singleton, nodes_snoc]
              exact HO5.out
        · have hkz : ¬ (k : Int) < n := by omega
          have hkn : k = n := by omega
          have HK : Hid (atL ts p = atK ts p k) := Lib.hid (by rw [HF.out, hkn])
          clear hlt hkn
          repeat (first | go_skip | go_guarded | go_step | go_upon)
          go_ret
          exact ⟨_, rfl, by rw [HK.out]; exact HO.out, HB.out⟩
  · have hEb : ((E : Int) != 0) = true := by simp; omega
    have HF : Hid (atL ts p = []) := Lib.hid (by unfold atL; rw [if_neg (by rw [hE1 e1]; simp)])
    clear cC hn h hs hl hS hSd hpl hp hE hE0 hE1 e1
    go_enter Tryz.func50, Tryz.ntmps50
    repeat (first | (go_at_call 28; refine CC.out.mono ?_; rintro r w1 ⟨rfl, hb⟩; simp only []; have B1 := Lib.hid hb; clear hb) | go_skip | go_guarded | go_step | go_upon)
    go_ret
    exact AtPost.nil HF.out B1.out
end TR
end Go.Proofs.YtmpmmebmhffaeaaGreatDoor
