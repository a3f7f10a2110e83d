/- Layer 6: the contract of the program's Names. -/
import Derived.Test.YtlofdhnghidcnaaDoorTreeGo6
import Derived.Test.YtlofdhnghidcnaaDoorTreeRefC
namespace Go.Proofs.YtlofdhnghidcnaaDoor
open Go.RowKit Go.Lib Go.BigFrame
namespace TG
open OM TP TM TR

theorem within_calls {ao : Option Addr} {cap : Nat} {ts : List Nd} {p : List UInt8} {w : World} (he : NF.Env w) (h : LayN w ao ts) (hs : SmallG ts) (hp : p.length ≤ 1048576) (ht : treeB ts = true) :
    ∀ W, Below w.heap.size w W → Calls Tryd.prog 39 #[.slice ao ts.length cap, txt p] W (CutPost ts p W) := fun W hW =>
  within_any ao cap ts p W (he.below hW) (h.below hW) ((tree_iff ts).1 ht).sorted ((tree_iff ts).1 ht).path hs ((tree_iff ts).1 ht).len hp
theorem names_cut {ts : List Nd} {p : List UInt8} {i j : Nat} (ht : treeB ts = true) (h : Cut ts p i j) : namesL ts p = namesK ((ts.take j).drop i) p (j - i) := by
  rw [h.names ((tree_iff ts).1 ht)]
  unfold namesK
  rw [List.take_of_length_le (l := (ts.take j).drop i)]
  have := h.le
  rw [List.length_drop, List.length_take]
  omega
theorem names_none {ts : List Nd} {p : List UInt8} (h : treeB ts = false) : namesL ts p = [] := by
  unfold namesL
  rw [if_neg (by rw [h]; simp)]
set_option maxRecDepth 100000 in
set_option maxHeartbeats 3200000 in
theorem names_any (ao : Option Addr) (cap : Nat) (ts : List Nd) (p : List UInt8) (w : World) (he : NF.Env w) (h : LayN w ao ts) (hs : SmallG ts) (hl : ts.length ≤ maxLen) (hcap : ts.length ≤ cap) (hp : p.length ≤ 1048576) :
    Calls Tryd.prog 21 #[.slice ao ts.length cap, txt p] w (NamesPost ts p w) := by
  obtain ⟨i0, hi, hz0, hz1, hz2⟩ := info_parts infoS
  have cC := check_any ao cap ts w he h hs hl hcap
  have cW := fun ht => within_calls (cap := cap) he h hs hp ht
  obtain ⟨n, hn⟩ : ∃ n, ts.length = n := ⟨_, rfl⟩
  have HN := Lib.hid hn
  have HL := Lib.hid h
  have HSm := Lib.hid hs
  have HE := Lib.hid he
  unfold maxLen at hl
  rw [hn] at hl cC cW hcap ⊢
  have hnz : (n : Int) ≤ 9223372036854775807 := by omega
  obtain ⟨S, hS, hSd⟩ := txt_of p
  have HS := Lib.hid hSd
  rw [hS] at cW ⊢
  obtain ⟨E, hE⟩ : ∃ E : Nat, checkG ts = E := ⟨_, rfl⟩
  have hE0 := checkG_zero ts
  rw [hE] at cC hE0
  have CC := Lib.hid cC
  have CW := Lib.hid cW
  by_cases hE1 : (E : Int) = 0
  · have hEb : ((E : Int) != 0) = false := by simp [hE1]
    have ht := hE0.1 hE1
    have h1000 : n ≤ 1000 := by have := ((tree_iff ts).1 ht).len; omega
    have HT := Lib.hid ht
    clear h hn hS hSd hl cC cW hE hs hE0 hE1 ht he hp
    go_enter Tryd.func21, Tryd.ntmps21
    repeat (first | (go_at_call 18; refine CC.out.mono ?_; rintro r w1 ⟨rfl, hb⟩; simp only []; have B1 := Lib.hid hb; clear hb) | (go_at_call 39; fail) | go_skip | go_guarded | go_step | go_upon)
    refine (CW.out HT.out _ B1.out).mono ?_
    rintro r w2 ⟨i, j, rfl, hcut, hb⟩
    simp only []
    have B2 := Lib.hid (Below.trans B1.out (hb.mono B1.out.size))
    obtain ⟨ao', c', hsl, hlay, hc', _⟩ := sl_lh ndsl_node ao ts n i j cap hcut.ij (by have := hcut.le; have := HN.out; omega)
    have HLB : Hid (∀ W, Below w.heap.size w W → LayN W ao' ((ts.take j).drop i)) := Lib.hid (fun W hW => hlay W (HL.out.below hW))
    obtain ⟨B, hB⟩ : ∃ B, (ts.take j).drop i = B := ⟨_, rfl⟩
    have HF := Lib.hid (names_cut HT.out hcut)
    obtain ⟨q, hq⟩ : ∃ q, j - i = q := ⟨_, rfl⟩
    have hBq : B.length = q := by
      have := hcut.le
      have := hcut.ij
      rw [← hB, List.length_drop, List.length_take]
      omega
    have HBq := Lib.hid hBq
    have hq1 : q ≤ 1000 := by have := hcut.le; have := HN.out; omega
    have HSB : Hid (SmallG B) := Lib.hid (fun m hm => HSm.out m (by rw [← hB] at hm; exact List.mem_of_mem_take (List.mem_of_mem_drop hm)))
    rw [hB] at HLB HF
    rw [hq] at hsl HF
    have hcl : i ≤ j := hcut.ij
    have hjc : j ≤ cap := by have := hcut.le; have := HN.out; omega
    clear hb hcut hlay hc' hB hBq hq
    repeat (first | go_skip | go_guarded | go_step | go_upon)
    go_loopw [5, 24] (fun s5 s24 wr => ∃ k : Nat, s24 = .int .i64 k ∧ k ≤ q ∧ wr.ownsRow w.heap.size 9 1 s5 (namesK B p k).length ((namesK B p k).map txt) ∧ Below w.heap.size w wr) (fun _ s24 _ => q - (Go.RowKit.intOf s24).toNat)
    case atStart => exact ⟨0, rfl, Nat.zero_le _, World.ownsRow_nil _ _ _ _, B2.out⟩
    case round =>
      obtain ⟨k, rfl, hk, ho, hb⟩ := hrel
      have HO := Lib.hid ho
      have HB := Lib.hid hb
      have hbs := hb.size
      have HKl := Lib.hid (namesK_len B p k)
      have HEr := Lib.hid (HE.out.below hb)
      have hLr := HLB.out _ hb
      clear ho hb
      by_cases hlt : k < q
      · have hkz : (k : Int) < q := by omega
        obtain ⟨g, o, rfl, hg, hcell⟩ := hLr (by rw [HBq.out]; omega)
        obtain ⟨x, hx⟩ : ∃ x, B[k]? = some x := ⟨B[k]'(by rw [HBq.out]; exact hlt), List.getElem?_eq_getElem _⟩
        have hmem := List.mem_of_getElem? hx
        have hs1 := (HSB.out x hmem).1
        obtain ⟨c0, c1, c2, c3⟩ := hcell k x hx
        obtain ⟨X, hX, hXd⟩ := txt_of x.path
        obtain ⟨D, hD, _⟩ := txt_of x.data
        rw [hX] at c0
        rw [hD] at c2
        obtain ⟨wa, hwa⟩ : ∃ wa, wr.alloc (.cells #[.string X, .int .i64 x.kind, .string D, .int .i64 x.mode] 32) = wa := ⟨_, rfl⟩
        have hba : Below wr.heap.size wr wa := by rw [← hwa]; exact (Below.refl _ _).alloc (Nat.le_refl _) _
        have hza : wr.heap.size < wa.heap.size := by rw [← hwa]; simp
        obtain ⟨a0, _, _, _⟩ := box4 wr (.string X) (.int .i64 x.kind) (.string D) (.int .i64 x.mode) 32
        rw [hwa] at a0
        have HBa := Lib.hid (Below.trans HB.out (hba.mono hbs))
        have HEa := Lib.hid (HEr.out.below hba)
        have HOa := Lib.hid (owns_below HO.out hba)
        have hsa := HBa.out.size
        have A0 : Hid (∀ W, Below wa.heap.size wa W → W.cell? ⟨wr.heap.size, 0, none⟩ = some (.string X)) := Lib.hid (fun W hW => (hW.cell (p := ⟨wr.heap.size, 0, none⟩) hza).trans a0)
        obtain ⟨P, hP, hPd⟩ := txt_of (NP.parentL x.path)
        obtain ⟨T, hT, _⟩ := txt_of (NP.baseL x.path)
        have C3 : Hid (∀ W, Below wa.heap.size wa W → Calls Tryd.prog 42 #[.string X] W fun r w' => r = .returned (.string P) ∧ Below W.heap.size W w') := Lib.hid (fun W hW => by
          have := parent_txt X x.path W (HEa.out.below hW) hXd hs1
          rw [hP] at this
          exact this)
        have C4 : Hid (∀ W, Below wa.heap.size wa W → Calls Tryd.prog 43 #[.string X] W fun r w' => r = .returned (.string T) ∧ Below W.heap.size W w') := Lib.hid (fun W hW => by
          have := base_txt X x.path W (HEa.out.below hW) hXd hs1
          rw [hT] at this
          exact this)
        have HTx := Lib.hid hT
        by_cases hpe : NP.parentL x.path = p
        · have hPS : (P.toList == S.toList) = true := by rw [Lib.toList_data, Lib.toList_data, hPd, HS.out, hpe]; simp
          have HK := Lib.hid (namesK_yes hx hpe)
          clear hX hXd hD hs1 hP hPd hT hpe hx hmem hcell hLr
          repeat (first
            | (go_at_call 42; refine (C3.out _ (Below.refl _ _)).mono ?_; rintro r w3 ⟨rfl, hb⟩; simp only []; have e3 := A0.out _ hb; have W3 := Lib.hid hb; clear hb)
            | (go_at_call 43; refine (C4.out _ W3.out).mono ?_; rintro r w4 ⟨rfl, hb⟩; simp only []; have W4 := Lib.hid (Below.trans W3.out (hb.mono W3.out.size)); have HO4 := Lib.hid (owns_below HOa.out W4.out); have HB4 := Lib.hid (Below.trans HBa.out (W4.out.mono hsa)); have hs4 := HB4.out.size; clear hb)
            | (at_builtin; refine wpList_append_own _ rfl _ _ 35 rfl w.heap.size 9 i0 (.string ByteArray.empty) 1 16 Tryd.underlying35 hi hz0 hz1 hz2 rfl (by decide) _ _ _ rfl (HO4.out.alloc _) ⟨w4.heap.size, 0, none⟩ 1 1 [.string T] rfl rfl (one_new _ _ _) (fun x hx => by simp at hx; subst hx; rfl) (by have := HKl.out; unfold maxLen; omega) (by have := HKl.out; omega) (by simp; omega) ?_; intro v' w5 hown' hgrow5 hnil5; have HO5 := Lib.hid hown'; have HB5 := Lib.hid ((HB4.out.alloc hs4 (.cells #[.string T] 9)).grown hgrow5 (by simp; omega) (fun j hj => (HO4.out.lt j hj).1)); clear hown' hgrow5 hnil5)
            | go_skip | go_guarded | go_step | go_upon)
          refine ⟨⟨k + 1, by go_num, by omega, ?_, HB5.out⟩, by simp [Go.RowKit.intOf]; omega⟩
          rw [HK.out, List.length_append, List.length_singleton, List.map_append, List.map_singleton, HTx.out]
          exact HO5.out
        · have hPS : (P.toList == S.toList) = false := by rw [Lib.toList_data, Lib.toList_data, hPd, HS.out]; simpa using hpe
          have HK := Lib.hid (namesK_no hx hpe)
          clear hX hXd hD hs1 hP hPd hT hpe hx hmem hcell hLr
          repeat (first
            | (go_at_call 42; refine (C3.out _ (Below.refl _ _)).mono ?_; rintro r w3 ⟨rfl, hb⟩; simp only []; have W3 := Lib.hid hb; have HO3 := Lib.hid (owns_below HOa.out hb); clear hb)
            | go_skip | go_guarded | go_step | go_upon)
          refine ⟨⟨k + 1, by go_num, by omega, ?_, Below.trans HBa.out (W3.out.mono hsa)⟩, by simp [Go.RowKit.intOf]; omega⟩
          rw [HK.out]
          exact HO3.out
      · have hkz : ¬ (k : Int) < q := by omega
        have hkq : k = q := by omega
        have HK : Hid (namesL ts p = namesK B p k) := Lib.hid (by rw [HF.out, hkq])
        clear hlt hkq
        repeat (first | go_skip | go_guarded | go_step | go_upon)
        go_ret
        exact ⟨_, rfl, by rw [HK.out]; exact HO.out, HB.out⟩
  · have hEb : ((E : Int) != 0) = true := by simp; omega
    have HF := Lib.hid (names_none (ts := ts) (p := p) (by cases ht : treeB ts with | false => rfl | true => exact absurd (hE0.2 ht) hE1))
    clear h hn hS hSd hl cC cW hE hs hE0 hE1 he hp
    go_enter Tryd.func21, Tryd.ntmps21
    repeat (first | (go_at_call 18; refine CC.out.mono ?_; rintro r w1 ⟨rfl, hb⟩; simp only []; have B1 := Lib.hid hb; clear hb) | go_skip | go_guarded | go_step | go_upon)
    go_ret
    exact NamesPost.nil HF.out B1.out
end TG
end Go.Proofs.YtlofdhnghidcnaaDoor
