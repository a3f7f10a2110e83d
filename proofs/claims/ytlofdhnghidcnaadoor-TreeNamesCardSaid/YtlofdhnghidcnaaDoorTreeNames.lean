/- Layer 6: the walk of TreeNames. -/
import Derived.Test.YtlofdhnghidcnaaDoorTreePairs
namespace Go.Proofs.YtlofdhnghidcnaaDoor
open Go.RowKit Go.Lib Go.BigFrame
namespace TL
open OM TP TM TR TG

theorem geq_str (t : TypeId) (a b : ByteArray) : binOp .geq t (.string a) (.string b) = pure (.bool (!(Op.bytesLess a.toList b.toList))) := by simp [binOp, Op.stringOp]
attribute [local go_sem] geq_str
/-- How many names the first k directories tell. -/
def cntK (ts : List Nd) (k : Nat) : Nat := (((root :: ts).take k).map fun d => (namesL ts d.path).length).sum
theorem cnt_succ {ts : List Nd} {k : Nat} {d : Nd} (h : (root :: ts)[k]? = some d) : cntK ts (k + 1) = cntK ts k + (namesL ts d.path).length := by
  unfold cntK
  rw [List.take_add_one, h, Option.toList_some, List.map_append, List.sum_append]
  simp
theorem cnt_le {ts : List Nd} (ht : Tree ts) (k : Nat) : cntK ts k ≤ ts.length := by
  rw [← names_count ht]
  unfold cntK
  conv => rhs; rw [← List.take_append_drop k (root :: ts)]
  rw [List.map_append, List.sum_append]
  omega
theorem cnt_end {ts : List Nd} (ht : Tree ts) {k : Nat} (h : ts.length + 1 ≤ k) : cntK ts k = ts.length := by
  unfold cntK
  rw [List.take_of_length_le (by simpa using h)]
  exact names_count ht
theorem names_file {ts : List Nd} (ht : Tree ts) {d : Nd} (hd : d ∈ root :: ts) (hk : d.kind ≠ 2) : namesL ts d.path = [] := by
  rcases List.mem_cons.1 hd with rfl | hd
  · exact absurd rfl hk
  · refine names_no ht fun h => ?_
    rcases h with e | ⟨e, he, hp, hk2⟩
    · exact path_ne (ht.path d hd) e
    · rw [sorted_one ht.sorted he hd hp] at hk2
      exact hk hk2
theorem get_there {ts : List Nd} (ht : Tree ts) {n : Nd} (hn : n ∈ ts) : getG ts n.path = .returned (.tuple #[ndVal n, .bool true]) := by
  unfold getG getL
  rw [if_pos ((tree_iff ts).2 ht), find_of ht.sorted hn]
theorem names_short {ts : List Nd} (ht : Tree ts) {p x : List UInt8} (hx : x ∈ namesL ts p) : x.length ≤ 400 := by
  obtain ⟨n, hn, e⟩ := names_there ht hx
  have h := ((path_iff n.path).1 (ht.path n hn)).1
  rw [e] at h
  split at h
  · exact h
  · rw [List.length_append, List.length_cons] at h; omega
theorem names_lt {ts : List Nd} (ht : Tree ts) {p x y : List UInt8} {i : Nat} (hy : (namesL ts p)[i]? = some y) (hx : (namesL ts p)[i + 1]? = some x) : NP.cmpL y x < 0 := by
  obtain ⟨hi, rfl⟩ := List.getElem?_eq_some_iff.1 hy
  obtain ⟨hj, rfl⟩ := List.getElem?_eq_some_iff.1 hx
  exact List.pairwise_iff_getElem.1 (names_order ht p) i (i + 1) hi hj (by omega)
theorem dir_short {ts : List Nd} (ht : Tree ts) {d : Nd} (hd : d ∈ root :: ts) : d.path.length ≤ 400 := by
  rcases List.mem_cons.1 hd with rfl | hd
  · decide
  · exact ((path_iff _).1 (ht.path d hd)).1
set_option maxRecDepth 100000 in
set_option maxHeartbeats 12800000 in
theorem tnames_any (ao : Option Addr) (ca : Nat) (ts : List Nd) (w : World) (he : NF.Env w) (hA : Arg w ao ca ts) :
    Calls Tryd.prog 6 #[.slice ao ts.length ca] w fun e w' => e = .returned (.bool true) ∧ Below w.heap.size w w' := by
  obtain ⟨i0, hi, hz0, hz1, hz2⟩ := info_parts infoN
  have CA : Hid (∀ W, Below w.heap.size w W → Calls Tryd.prog 8 #[] W fun e w' => e = .returned (.bool true) ∧ Below W.heap.size W w') := Lib.hid (fun W hW => awake_any W (he.below hW))
  have CC := fun W (hW : Below w.heap.size w W) => (hA.below hW).check (he.below hW)
  have cNm := fun W p (hW : Below w.heap.size w W) (hp : p.length ≤ 1048576) => names_any ao ca ts p W (he.below hW) (hA.below hW).lay hA.small hA.max hA.cap hp
  have cG := fun W p (hW : Below w.heap.size w W) (hp : p.length ≤ 1048576) => get_any ao ca ts p W (he.below hW) (hA.below hW).lay hA.small hA.max hA.cap hp
  have hEt := checkG_zero ts
  obtain ⟨E, hE⟩ : ∃ E, checkG ts = E := ⟨_, rfl⟩
  obtain ⟨n, hn⟩ : ∃ n, ts.length = n := ⟨_, rfl⟩
  have HN := Lib.hid hn
  have hn1 : n ≤ 1048576 := by rw [← hn]; exact hA.len
  have hnz : (n : Int) ≤ 1048576 := by omega
  rw [hn, hE] at CC
  rw [hn] at cNm cG
  rw [hE] at hEt
  rw [hn]
  have CCh := Lib.hid CC
  have CNm := Lib.hid cNm
  have CG := Lib.hid cG
  have HA := Lib.hid hA
  clear he hA CC cNm cG hE hn
  by_cases e1 : (E : Int) = 0
  · have hEb : ((E : Int) != 0) = false := by simp [e1]
    have ht := (tree_iff ts).1 (hEt.1 e1)
    have HT := Lib.hid ht
    have hn2 : n ≤ 1000 := by rw [← HN.out]; exact ht.len
    obtain ⟨nr, hnr⟩ : ∃ nr, n + 1 = nr := ⟨_, rfl⟩
    have HNr : Hid ((root :: ts).length = nr) := Lib.hid (by rw [List.length_cons, HN.out, hnr])
    have HNn := Lib.hid hnr
    have hnrz : (nr : Int) ≤ 1001 := by omega
    clear e1 hEt ht hnr
    cases ao with
    | none =>
      have h0 : ts = [] := PcOk.none (e := ⟨none, ca, ts⟩) ⟨HA.out.lay, HA.out.no⟩ rfl
      have hca := HA.out.no rfl
      subst hca
      have hn0 : n = 0 := by rw [← HN.out, h0]; rfl
      have HTs := Lib.hid h0
      clear h0
      go_enter Tryd.func6, Tryd.ntmps6
      subst hn0
      repeat (first
        | (go_at_call 8; refine (CA.out _ (Below.refl _ _)).mono ?_; rintro r w1 ⟨rfl, hb⟩; simp only []; have B1 := Lib.hid hb; clear hb)
        | (go_at_call 18; refine (CCh.out _ B1.out).mono ?_; rintro r w2 ⟨rfl, hb⟩; simp only []; have B2 := Lib.hid (Below.trans B1.out (hb.mono B1.out.size)); have hs2 := B2.out.size; have HOw := Lib.hid (own_new w2 w.heap.size hs2 root (.string ⟨#[]⟩) (.string ⟨#[]⟩) rfl rfl); clear hb)
        | (at_builtin; refine wpList_append_own_none rfl _ _ 22 rfl w.heap.size 32 i0 4 Tryd.underlying22 hi _ _ _ rfl HOw.out rfl ?_)
        | go_skip | go_guarded | go_step | go_upon)
      obtain rfl : 1 = nr := by have := HNn.out; omega
      have HR0 : Hid ((w2.alloc (.cells #[.string ⟨#[]⟩, .int .i64 2, .string ⟨#[]⟩, .int .i64 0] 32)).ownsRow w.heap.size 32 4 (.slice (some ⟨w2.heap.size, 0, none⟩) 1 1) 1 (nodesC (root :: ts))) := Lib.hid (by rw [HTs.out]; exact HOw.out)
      have BR0 := Lib.hid (B2.out.alloc hs2 (.cells #[.string ⟨#[]⟩, .int .i64 2, .string ⟨#[]⟩, .int .i64 0] 32))
      go_loopw [26, 3] (fun s26 s3 wr => ∃ k : Nat, s26 = .int .i64 k ∧ s3 = .int .i64 (cntK ts k : Nat) ∧ k ≤ 1 ∧ wr.ownsRow w.heap.size 32 4 (.slice (some ⟨w2.heap.size, 0, none⟩) 1 1) 1 (nodesC (root :: ts)) ∧ Below w.heap.size w wr) (fun s26 _ _ => 1 - (Go.RowKit.intOf s26).toNat)
      case atStart => exact ⟨0, rfl, rfl, Nat.zero_le _, HR0.out, BR0.out⟩
      case round =>
        obtain ⟨k, rfl, rfl, hk, hu, hb⟩ := hrel
        have HB := Lib.hid hb
        have hbs := hb.size
        have HUr := Lib.hid hu
        have hlr : LayN wr (some ⟨w2.heap.size, 0, none⟩) (root :: ts) := by
          have h1 := hu
          rw [← HNr.out] at h1
          obtain ⟨a5, c5, e5, h5⟩ := lay_own h1
          simp only [Value.slice.injEq, HNr.out, true_and] at e5
          rw [e5.1]
          exact h5
        have hck := cnt_le HT.out k
        rw [HN.out] at hck
        clear hu hb
        by_cases hlt : k < 1
        · have hkz : (k : Int) < 1 := by omega
          obtain ⟨g, o, hgo, hg, hcell⟩ := hlr (by rw [HNr.out]; omega)
          simp only [Option.some.injEq, Addr.mk.injEq, and_true] at hgo
          obtain ⟨rfl, rfl⟩ := hgo
          obtain ⟨d, hd⟩ : ∃ d, (root :: ts)[k]? = some d := ⟨(root :: ts)[k]'(by rw [HNr.out]; exact hlt), List.getElem?_eq_getElem _⟩
          have hdm := List.mem_of_getElem? hd
          obtain ⟨k0, k1, k2, k3⟩ := hcell k d hd
          obtain ⟨P, hP, hPd⟩ := txt_of d.path
          obtain ⟨D, hD, _⟩ := txt_of d.data
          simp only [Nat.zero_add] at k0 k1 k2 k3
          rw [hP] at k0
          rw [hD] at k2
          have HPd := Lib.hid hPd
          have HPs : Hid (P.size ≤ 400) := Lib.hid (by rw [Lib.size_eq, hPd]; exact dir_short HT.out hdm)
          obtain ⟨wa, hwa⟩ : ∃ wa, wr.alloc (.cells #[.string P, .int .i64 d.kind, .string D, .int .i64 d.mode] 32) = wa := ⟨_, rfl⟩
          have hba : Below wr.heap.size wr wa := by rw [← hwa]; exact (Below.refl _ _).alloc (Nat.le_refl _) _
          have hza : wr.heap.size < wa.heap.size := by rw [← hwa]; simp
          obtain ⟨a0, a1, _, _⟩ := box4 wr (.string P) (.int .i64 d.kind) (.string D) (.int .i64 d.mode) 32
          rw [hwa] at a0 a1
          have HBa := Lib.hid (Below.trans HB.out (hba.mono hbs))
          have HUa := Lib.hid (owns_below HUr.out hba)
          obtain ⟨L, hL⟩ : ∃ L, namesL ts d.path = L := ⟨_, rfl⟩
          obtain ⟨l, hl⟩ : ∃ l, L.length = l := ⟨_, rfl⟩
          obtain ⟨c, hc⟩ : ∃ c, cntK ts k = c := ⟨_, rfl⟩
          obtain ⟨c2, hc2⟩ : ∃ c2, c + l = c2 := ⟨_, rfl⟩
          have HC2 := Lib.hid hc2
          have HCs : Hid (cntK ts (k + 1) = c2) := Lib.hid (by rw [cnt_succ hd, hL, hl, hc, hc2])
          have hcl : c2 ≤ 1000 := by have := cnt_le HT.out (k + 1); rw [HCs.out, HN.out] at this; omega
          have hlz : (l : Int) ≤ 1000 := by omega
          have HLl := Lib.hid hl
          have HLe := Lib.hid hL
          have cN := CNm.out wa d.path HBa.out (by have := HPs.out; rw [Lib.size_eq, hPd] at this; omega)
          unfold NamesPost at cN
          rw [hP, hL, hl] at cN
          have CN := Lib.hid cN
          have hfile : d.kind ≠ 2 → l = 0 := fun h => by rw [← hl, ← hL, names_file HT.out hdm h]; rfl
          have HA0 := Lib.hid a0
          have HA1 := Lib.hid a1
          rw [hc]
          clear hlr hcell hd hdm hP hPd hD hL hl cN hba hlt hc2 a0 a1
          have a0 := HA0.out
          repeat (first | (go_at_call 21; fail) | go_skip | go_guarded | go_step | go_upon)
          refine CN.out.mono ?_
          rintro r w3 ⟨u, rfl, ho, hb⟩
          simp only []
          have B3 := Lib.hid (Below.trans HBa.out (hb.mono HBa.out.size))
          have HU3 := Lib.hid (owns_below HUa.out hb)
          have HBox : Hid (∀ W, Below w3.heap.size w3 W → W.cell? ⟨wr.heap.size, 0, none⟩ = some (.string P)) := Lib.hid (fun W hW => (hW.cell (p := ⟨wr.heap.size, 0, none⟩) (Nat.lt_of_lt_of_le hza hb.size)).trans ((hb.cell (p := ⟨wr.heap.size, 0, none⟩) hza).trans HA0.out))
          have b1 : w3.cell? ⟨wr.heap.size, 1, none⟩ = some (.int .i64 d.kind) := (hb.cell (p := ⟨wr.heap.size, 1, none⟩) hza).trans HA1.out
          rw [← HLl.out] at ho
          obtain ⟨aL, cL, rfl, hlay⟩ := lays_of ho
          rw [HLl.out]
          have HLy := Lib.hid hlay
          clear hb ho hlay hwa a0 hc
          by_cases hk2 : d.kind = 2
          · have hk2b : (d.kind != 2) = false := by simp [hk2]
            clear hk2 hfile
            repeat (first | go_skip | go_guarded | go_step | go_upon)
            obtain ⟨wo, rfl⟩ : ∃ x, x = wr := ⟨_, rfl⟩
            go_loopw [44, 3] (fun s44 s3 wv => ∃ i : Nat, s44 = .int .i64 i ∧ s3 = .int .i64 ((c : Int) + (i : Int)) ∧ i ≤ l ∧ Below w3.heap.size w3 wv) (fun s44 _ _ => l - (Go.RowKit.intOf s44).toNat)
            case atStart => exact ⟨0, rfl, by simp, Nat.zero_le _, Below.refl _ _⟩
            case round =>
              obtain ⟨i, rfl, rfl, hi, hb⟩ := hrel
              have W3v := Lib.hid hb
              clear hb
              by_cases hil : i < l
              · have hilz : (i : Int) < l := by omega
                have hci : (c : Int) + (i : Int) ≤ 1000 := by have := HC2.out; omega
                obtain ⟨x, hx⟩ : ∃ x, L[i]? = some x := ⟨L[i]'(by rw [HLl.out]; exact hil), List.getElem?_eq_getElem _⟩
                have hxm := List.mem_of_getElem? hx
                rw [← HLe.out] at hxm
                obtain ⟨gL, oL, rfl, hgL, hcL⟩ := HLy.out (by rw [HLl.out]; omega)
                have HCL : Hid (∀ W, Below w3.heap.size w3 W → ∀ (j : Nat) t, L[j]? = some t → W.cell? ⟨gL, oL + j, none⟩ = some (txt t)) := Lib.hid (fun W hW j t h => (hW.cell (p := ⟨gL, oL + j, none⟩) hgL).trans (hcL j t h))
                have cx := HCL.out wr W3v.out i x hx
                obtain ⟨X, hX, hXd⟩ := txt_of x
                rw [hX] at cx
                have HX := Lib.hid hx
                have HXd := Lib.hid hXd
                have hXs : X.size ≤ 400 := by rw [Lib.size_eq, hXd]; exact names_short HT.out hxm
                obtain ⟨nd, hnd, hndp⟩ := names_there HT.out hxm
                have hgt := get_there HT.out hnd
                rw [hndp] at hgt
                have bp := HBox.out wr W3v.out
                by_cases hd0 : d.path = []
                · have hPe : P.toList.isEmpty = true := by rw [Lib.toList_data, HPd.out, hd0]; rfl
                  rw [if_pos hd0] at hgt
                  obtain ⟨NP', hNP, _⟩ := txt_of nd.path
                  obtain ⟨ND', hND, _⟩ := txt_of nd.data
                  have CGq : Hid (∀ W, Below w3.heap.size w3 W → Calls Tryd.prog 22 #[.slice none 0 0, .string X] W fun r w' => r = .returned (.tuple #[.agg #[.string NP', .int .i64 nd.kind, .string ND', .int .i64 nd.mode], .bool true]) ∧ Below W.heap.size W w') := Lib.hid (fun W hW => by
                    have := CG.out W x (Below.trans B3.out (hW.mono B3.out.size)) (by rw [← hXd, ← Lib.size_eq]; omega)
                    rw [hX, hgt] at this
                    unfold ndVal at this
                    rw [hNP, hND] at this
                    exact this)
                  clear hx hxm hcL hX hXd hnd hndp hgt hNP hND hd0
                  by_cases i0 : i = 0
                  · have i0n : ¬ 0 < i := by omega
                    have i0z : ¬ (0 : Int) < i := by omega
                    have i0d : decide (0 < i) = false := decide_eq_false i0n
                    clear i0
                    repeat (first
                      | (go_at_call 22; refine (CGq.out _ W3v.out).mono ?_; rintro r w5 ⟨rfl, hb⟩; simp only []; have W5 := Lib.hid (Below.trans W3v.out (hb.mono W3v.out.size)); clear hb)
                      | go_skip | go_guarded | go_step | go_upon)
                    exact ⟨⟨i + 1, by go_num, by go_num, by omega, W5.out.alloc W5.out.size _⟩, by simp [Go.RowKit.intOf]; omega⟩
                  · obtain ⟨j, hj⟩ : ∃ j, i = j + 1 := ⟨i - 1, by omega⟩
                    have i0n : 0 < i := by omega
                    have i0z : (0 : Int) < i := by omega
                    have i0d : decide (0 < i) = true := decide_eq_true i0n
                    have hjz : (i : Int) - 1 = j := by omega
                    have hjl : (j : Int) < l := by omega
                    obtain ⟨y, hy⟩ : ∃ y, L[j]? = some y := ⟨L[j]'(by rw [HLl.out]; omega), List.getElem?_eq_getElem _⟩
                    obtain ⟨Y, hY, hYd⟩ := txt_of y
                    have hlt2 : NP.cmpL y x < 0 := by
                      have h1 := hy
                      have h2 := HX.out
                      rw [hj, ← HLe.out] at h2
                      rw [← HLe.out] at h1
                      exact names_lt HT.out h1 h2
                    have hbl : Op.bytesLess Y.toList X.toList = true := by rw [Lib.toList_data, Lib.toList_data, hYd, HXd.out, R1.RO.less_cmp, decide_eq_true hlt2]
                    have CY : Hid (∀ W, Below w3.heap.size w3 W → W.cell? ⟨gL, oL + j, none⟩ = some (.string Y)) := Lib.hid (fun W hW => by
                      have := HCL.out W hW j y hy
                      rw [hY] at this
                      exact this)
                    clear i0 hj hy hY hYd hlt2
                    repeat (first
                      | (go_at_call 22; refine (CGq.out _ W3v.out).mono ?_; rintro r w5 ⟨rfl, hb⟩; simp only []; have W5 := Lib.hid (Below.trans W3v.out (hb.mono W3v.out.size)); have cy := CY.out _ (W5.out.alloc W5.out.size (.cells #[.string NP', .int .i64 nd.kind, .string ND', .int .i64 nd.mode] 32)); clear hb)
                      | go_skip | go_guarded | go_step | go_upon)
                    exact ⟨⟨i + 1, by go_num, by go_num, by omega, W5.out.alloc W5.out.size _⟩, by simp [Go.RowKit.intOf]; omega⟩
                · have hPe : P.toList.isEmpty = false := by rw [Lib.toList_data, HPd.out]; simpa using hd0
                  rw [if_neg hd0] at hgt
                  obtain ⟨NP', hNP, _⟩ := txt_of nd.path
                  obtain ⟨ND', hND, _⟩ := txt_of nd.data
                  obtain ⟨P1, hP1⟩ : ∃ P1 : ByteArray, P ++ ⟨#[47]⟩ = P1 := ⟨_, rfl⟩
                  obtain ⟨P2, hP2⟩ : ∃ P2 : ByteArray, P1 ++ X = P2 := ⟨_, rfl⟩
                  have hP1d : P1.data.toList = d.path ++ [47] := by rw [← hP1]; simp [HPd.out]
                  have hP2d : P2.data.toList = d.path ++ 47 :: x := by rw [← hP2]; simp [hP1d, hXd]
                  have hP1s : P1.size ≤ 401 := by rw [Lib.size_eq, hP1d, List.length_append]; have := HPs.out; rw [Lib.size_eq, HPd.out] at this; simp; omega
                  have hPz : P.size + 1 ≤ 9223372036854775807 := by have := HPs.out; omega
                  have hPz2 : P1.size + X.size ≤ 9223372036854775807 := by omega
                  have hP2t : txt (d.path ++ 47 :: x) = .string P2 := by rw [← hP2d, txt_data]
                  have CGq : Hid (∀ W, Below w3.heap.size w3 W → Calls Tryd.prog 22 #[.slice none 0 0, .string P2] W fun r w' => r = .returned (.tuple #[.agg #[.string NP', .int .i64 nd.kind, .string ND', .int .i64 nd.mode], .bool true]) ∧ Below W.heap.size W w') := Lib.hid (fun W hW => by
                    have := CG.out W (d.path ++ 47 :: x) (Below.trans B3.out (hW.mono B3.out.size)) (by have h1 := HPs.out; rw [Lib.size_eq, HPd.out] at h1; have h2 := hXs; rw [Lib.size_eq, hXd] at h2; rw [List.length_append, List.length_cons]; omega)
                    rw [hP2t, hgt] at this
                    unfold ndVal at this
                    rw [hNP, hND] at this
                    exact this)
                  clear hx hxm hcL hX hXd hnd hndp hgt hNP hND hd0 hP1d hP2d hP2t
                  by_cases i0 : i = 0
                  · have i0n : ¬ 0 < i := by omega
                    have i0z : ¬ (0 : Int) < i := by omega
                    have i0d : decide (0 < i) = false := decide_eq_false i0n
                    clear i0
                    repeat (first
                      | (go_at_call 22; refine (CGq.out _ W3v.out).mono ?_; rintro r w5 ⟨rfl, hb⟩; simp only []; have W5 := Lib.hid (Below.trans W3v.out (hb.mono W3v.out.size)); clear hb)
                      | go_skip | go_guarded | go_step | go_upon)
                    exact ⟨⟨i + 1, by go_num, by go_num, by omega, W5.out.alloc W5.out.size _⟩, by simp [Go.RowKit.intOf]; omega⟩
                  · obtain ⟨j, hj⟩ : ∃ j, i = j + 1 := ⟨i - 1, by omega⟩
                    have i0n : 0 < i := by omega
                    have i0z : (0 : Int) < i := by omega
                    have i0d : decide (0 < i) = true := decide_eq_true i0n
                    have hjz : (i : Int) - 1 = j := by omega
                    have hjl : (j : Int) < l := by omega
                    obtain ⟨y, hy⟩ : ∃ y, L[j]? = some y := ⟨L[j]'(by rw [HLl.out]; omega), List.getElem?_eq_getElem _⟩
                    obtain ⟨Y, hY, hYd⟩ := txt_of y
                    have hlt2 : NP.cmpL y x < 0 := by
                      have h1 := hy
                      have h2 := HX.out
                      rw [hj, ← HLe.out] at h2
                      rw [← HLe.out] at h1
                      exact names_lt HT.out h1 h2
                    have hbl : Op.bytesLess Y.toList X.toList = true := by rw [Lib.toList_data, Lib.toList_data, hYd, HXd.out, R1.RO.less_cmp, decide_eq_true hlt2]
                    have CY : Hid (∀ W, Below w3.heap.size w3 W → W.cell? ⟨gL, oL + j, none⟩ = some (.string Y)) := Lib.hid (fun W hW => by
                      have := HCL.out W hW j y hy
                      rw [hY] at this
                      exact this)
                    clear i0 hj hy hY hYd hlt2
                    repeat (first
                      | (go_at_call 22; refine (CGq.out _ W3v.out).mono ?_; rintro r w5 ⟨rfl, hb⟩; simp only []; have W5 := Lib.hid (Below.trans W3v.out (hb.mono W3v.out.size)); have cy := CY.out _ (W5.out.alloc W5.out.size (.cells #[.string NP', .int .i64 nd.kind, .string ND', .int .i64 nd.mode] 32)); clear hb)
                      | go_skip | go_guarded | go_step | go_upon)
                    exact ⟨⟨i + 1, by go_num, by go_num, by omega, W5.out.alloc W5.out.size _⟩, by simp [Go.RowKit.intOf]; omega⟩
              · have hilz : ¬ (i : Int) < l := by omega
                have hie : (c : Int) + (i : Int) = (c2 : Int) := by have := HC2.out; omega
                have BE := Lib.hid (Below.trans B3.out (W3v.out.mono B3.out.size))
                have HUE := Lib.hid (owns_below HU3.out W3v.out)
                clear hil
                repeat (first | go_skip | go_guarded | go_step | go_upon)
                exact ⟨⟨k + 1, by go_num, by rw [HCs.out, hie], by omega, HUE.out, BE.out⟩, by simp [Go.RowKit.intOf]; omega⟩
          · have hk2b : (d.kind != 2) = true := by simp [hk2]
            have hl0 := hfile hk2
            have hl0n : ¬ 0 < l := by omega
            have hl0z : ¬ (0 : Int) < l := by omega
            have hl0d : decide (0 < l) = false := decide_eq_false hl0n
            clear hk2 hfile hl0
            repeat (first | go_skip | go_guarded | go_step | go_upon)
            obtain ⟨wo, rfl⟩ : ∃ x, x = wr := ⟨_, rfl⟩
            go_loopw [44, 3] (fun s44 s3 wv => ∃ i : Nat, s44 = .int .i64 i ∧ s3 = .int .i64 ((c : Int) + (i : Int)) ∧ i ≤ l ∧ Below w3.heap.size w3 wv) (fun s44 _ _ => l - (Go.RowKit.intOf s44).toNat)
            case atStart => exact ⟨0, rfl, by simp, Nat.zero_le _, Below.refl _ _⟩
            case round =>
              obtain ⟨i, rfl, rfl, hi, hb⟩ := hrel
              have W3v := Lib.hid hb
              clear hb
              by_cases hil : i < l
              · exact absurd hil (by omega)
              · have hilz : ¬ (i : Int) < l := by omega
                have hie : (c : Int) + (i : Int) = (c2 : Int) := by have := HC2.out; omega
                have BE := Lib.hid (Below.trans B3.out (W3v.out.mono B3.out.size))
                have HUE := Lib.hid (owns_below HU3.out W3v.out)
                clear hil
                repeat (first | go_skip | go_guarded | go_step | go_upon)
                exact ⟨⟨k + 1, by go_num, by rw [HCs.out, hie], by omega, HUE.out, BE.out⟩, by simp [Go.RowKit.intOf]; omega⟩
        · have hkz : ¬ (k : Int) < 1 := by omega
          have HCe : Hid (cntK ts k = 0) := Lib.hid (by rw [cnt_end HT.out (by have := HNr.out; rw [List.length_cons] at this; omega), HN.out])
          obtain ⟨c, hc⟩ : ∃ c, cntK ts k = c := ⟨_, rfl⟩
          have hcn : c = 0 := by rw [← hc]; exact HCe.out
          rw [hc]
          subst hcn
          clear hlr hlt hck hc
          repeat (first | go_skip | go_guarded | go_step | go_upon)
          go_ret
          exact ⟨by simp, HB.out⟩
    | some ad =>
      have HNws : Hid (∀ W, Below w.heap.size w W → ∀ (j : Nat) (u : Value), (nodesC ts)[j]? = some u → W.cell? (ad.add j) = some u) := Lib.hid (fun W hW => lay_cells (HA.out.lay.below hW))
      have HNl : Hid ((nodesC ts).length = n * 4) := Lib.hid (by rw [nodes_len, HN.out])
      have HNd : Hid (∀ u ∈ nodesC ts, u.oneCell' = true) := Lib.hid (nds_one ts)
      go_enter Tryd.func6, Tryd.ntmps6
      repeat (first
        | (go_at_call 8; refine (CA.out _ (Below.refl _ _)).mono ?_; rintro r w1 ⟨rfl, hb⟩; simp only []; have B1 := Lib.hid hb; clear hb)
        | (go_at_call 18; refine (CCh.out _ B1.out).mono ?_; rintro r w2 ⟨rfl, hb⟩; simp only []; have B2 := Lib.hid (Below.trans B1.out (hb.mono B1.out.size)); have hs2 := B2.out.size; have HOw := Lib.hid (own_new w2 w.heap.size hs2 root (.string ⟨#[]⟩) (.string ⟨#[]⟩) rfl rfl); clear hb)
        | (at_builtin; refine wpList_append_own _ rfl _ _ 22 rfl w.heap.size 32 i0 (ndVal zeroN) 4 48 Tryd.underlying22 hi hz0 hz1 hz2 rfl (by decide) _ _ _ rfl HOw.out ad n ca (nodesC ts) rfl HNl.out (HNws.out _ (B2.out.alloc hs2 _)) HNd.out (by unfold maxLen; omega) (by omega) (by simp; omega) ?_; intro v' w5 hown' hgrow5 hnil5; rw [Nat.add_comm, HNn.out] at hown'; obtain ⟨aR, cR, rfl, _⟩ := owns_view hown'; have HR0 : Hid (w5.ownsRow w.heap.size 32 4 (.slice aR nr cR) nr (nodesC (root :: ts))) := Lib.hid hown'; have BR0 := Lib.hid ((B2.out.alloc hs2 _).grown hgrow5 (by simp; omega) (fun j hj => (HOw.out.lt j hj).1)); clear hown' hgrow5 hnil5)
        | go_skip | go_guarded | go_step | go_upon)
      go_loopw [26, 3] (fun s26 s3 wr => ∃ k : Nat, s26 = .int .i64 k ∧ s3 = .int .i64 (cntK ts k : Nat) ∧ k ≤ nr ∧ wr.ownsRow w.heap.size 32 4 (.slice aR nr cR) nr (nodesC (root :: ts)) ∧ Below w.heap.size w wr) (fun s26 _ _ => nr - (Go.RowKit.intOf s26).toNat)
      case atStart => exact ⟨0, rfl, rfl, Nat.zero_le _, HR0.out, BR0.out⟩
      case round =>
        obtain ⟨k, rfl, rfl, hk, hu, hb⟩ := hrel
        have HB := Lib.hid hb
        have hbs := hb.size
        have HUr := Lib.hid hu
        have hlr : LayN wr aR (root :: ts) := by
          have h1 := hu
          rw [← HNr.out] at h1
          obtain ⟨a5, c5, e5, h5⟩ := lay_own h1
          simp only [Value.slice.injEq, HNr.out, true_and] at e5
          rw [e5.1]
          exact h5
        have hck := cnt_le HT.out k
        rw [HN.out] at hck
        clear hu hb
        by_cases hlt : k < nr
        · have hkz : (k : Int) < nr := by omega
          obtain ⟨g, o, rfl, hg, hcell⟩ := hlr (by rw [HNr.out]; omega)
          obtain ⟨d, hd⟩ : ∃ d, (root :: ts)[k]? = some d := ⟨(root :: ts)[k]'(by rw [HNr.out]; exact hlt), List.getElem?_eq_getElem _⟩
          have hdm := List.mem_of_getElem? hd
          obtain ⟨k0, k1, k2, k3⟩ := hcell k d hd
          obtain ⟨P, hP, hPd⟩ := txt_of d.path
          obtain ⟨D, hD, _⟩ := txt_of d.data
          rw [hP] at k0
          rw [hD] at k2
          have HPd := Lib.hid hPd
          have HPs : Hid (P.size ≤ 400) := Lib.hid (by rw [Lib.size_eq, hPd]; exact dir_short HT.out hdm)
          obtain ⟨wa, hwa⟩ : ∃ wa, wr.alloc (.cells #[.string P, .int .i64 d.kind, .string D, .int .i64 d.mode] 32) = wa := ⟨_, rfl⟩
          have hba : Below wr.heap.size wr wa := by rw [← hwa]; exact (Below.refl _ _).alloc (Nat.le_refl _) _
          have hza : wr.heap.size < wa.heap.size := by rw [← hwa]; simp
          obtain ⟨a0, a1, _, _⟩ := box4 wr (.string P) (.int .i64 d.kind) (.string D) (.int .i64 d.mode) 32
          rw [hwa] at a0 a1
          have HBa := Lib.hid (Below.trans HB.out (hba.mono hbs))
          have HUa := Lib.hid (owns_below HUr.out hba)
          obtain ⟨L, hL⟩ : ∃ L, namesL ts d.path = L := ⟨_, rfl⟩
          obtain ⟨l, hl⟩ : ∃ l, L.length = l := ⟨_, rfl⟩
          obtain ⟨c, hc⟩ : ∃ c, cntK ts k = c := ⟨_, rfl⟩
          obtain ⟨c2, hc2⟩ : ∃ c2, c + l = c2 := ⟨_, rfl⟩
          have HC2 := Lib.hid hc2
          have HCs : Hid (cntK ts (k + 1) = c2) := Lib.hid (by rw [cnt_succ hd, hL, hl, hc, hc2])
          have hcl : c2 ≤ 1000 := by have := cnt_le HT.out (k + 1); rw [HCs.out, HN.out] at this; omega
          have hlz : (l : Int) ≤ 1000 := by omega
          have HLl := Lib.hid hl
          have HLe := Lib.hid hL
          have cN := CNm.out wa d.path HBa.out (by have := HPs.out; rw [Lib.size_eq, hPd] at this; omega)
          unfold NamesPost at cN
          rw [hP, hL, hl] at cN
          have CN := Lib.hid cN
          have hfile : d.kind ≠ 2 → l = 0 := fun h => by rw [← hl, ← hL, names_file HT.out hdm h]; rfl
          have HA0 := Lib.hid a0
          have HA1 := Lib.hid a1
          rw [hc]
          clear hlr hcell hd hdm hP hPd hD hL hl cN hba hlt hc2 a0 a1
          have a0 := HA0.out
          repeat (first | (go_at_call 21; fail) | go_skip | go_guarded | go_step | go_upon)
          refine CN.out.mono ?_
          rintro r w3 ⟨u, rfl, ho, hb⟩
          simp only []
          have B3 := Lib.hid (Below.trans HBa.out (hb.mono HBa.out.size))
          have HU3 := Lib.hid (owns_below HUa.out hb)
          have HBox : Hid (∀ W, Below w3.heap.size w3 W → W.cell? ⟨wr.heap.size, 0, none⟩ = some (.string P)) := Lib.hid (fun W hW => (hW.cell (p := ⟨wr.heap.size, 0, none⟩) (Nat.lt_of_lt_of_le hza hb.size)).trans ((hb.cell (p := ⟨wr.heap.size, 0, none⟩) hza).trans HA0.out))
          have b1 : w3.cell? ⟨wr.heap.size, 1, none⟩ = some (.int .i64 d.kind) := (hb.cell (p := ⟨wr.heap.size, 1, none⟩) hza).trans HA1.out
          rw [← HLl.out] at ho
          obtain ⟨aL, cL, rfl, hlay⟩ := lays_of ho
          rw [HLl.out]
          have HLy := Lib.hid hlay
          clear hb ho hlay hwa a0 hc
          by_cases hk2 : d.kind = 2
          · have hk2b : (d.kind != 2) = false := by simp [hk2]
            clear hk2 hfile
            repeat (first | go_skip | go_guarded | go_step | go_upon)
            obtain ⟨wo, rfl⟩ : ∃ x, x = wr := ⟨_, rfl⟩
            go_loopw [44, 3] (fun s44 s3 wv => ∃ i : Nat, s44 = .int .i64 i ∧ s3 = .int .i64 ((c : Int) + (i : Int)) ∧ i ≤ l ∧ Below w3.heap.size w3 wv) (fun s44 _ _ => l - (Go.RowKit.intOf s44).toNat)
            case atStart => exact ⟨0, rfl, by simp, Nat.zero_le _, Below.refl _ _⟩
            case round =>
              obtain ⟨i, rfl, rfl, hi, hb⟩ := hrel
              have W3v := Lib.hid hb
              clear hb
              by_cases hil : i < l
              · have hilz : (i : Int) < l := by omega
                have hci : (c : Int) + (i : Int) ≤ 1000 := by have := HC2.out; omega
                obtain ⟨x, hx⟩ : ∃ x, L[i]? = some x := ⟨L[i]'(by rw [HLl.out]; exact hil), List.getElem?_eq_getElem _⟩
                have hxm := List.mem_of_getElem? hx
                rw [← HLe.out] at hxm
                obtain ⟨gL, oL, rfl, hgL, hcL⟩ := HLy.out (by rw [HLl.out]; omega)
                have HCL : Hid (∀ W, Below w3.heap.size w3 W → ∀ (j : Nat) t, L[j]? = some t → W.cell? ⟨gL, oL + j, none⟩ = some (txt t)) := Lib.hid (fun W hW j t h => (hW.cell (p := ⟨gL, oL + j, none⟩) hgL).trans (hcL j t h))
                have cx := HCL.out wr W3v.out i x hx
                obtain ⟨X, hX, hXd⟩ := txt_of x
                rw [hX] at cx
                have HX := Lib.hid hx
                have HXd := Lib.hid hXd
                have hXs : X.size ≤ 400 := by rw [Lib.size_eq, hXd]; exact names_short HT.out hxm
                obtain ⟨nd, hnd, hndp⟩ := names_there HT.out hxm
                have hgt := get_there HT.out hnd
                rw [hndp] at hgt
                have bp := HBox.out wr W3v.out
                by_cases hd0 : d.path = []
                · have hPe : P.toList.isEmpty = true := by rw [Lib.toList_data, HPd.out, hd0]; rfl
                  rw [if_pos hd0] at hgt
                  obtain ⟨NP', hNP, _⟩ := txt_of nd.path
                  obtain ⟨ND', hND, _⟩ := txt_of nd.data
                  have CGq : Hid (∀ W, Below w3.heap.size w3 W → Calls Tryd.prog 22 #[.slice (some ad) n ca, .string X] W fun r w' => r = .returned (.tuple #[.agg #[.string NP', .int .i64 nd.kind, .string ND', .int .i64 nd.mode], .bool true]) ∧ Below W.heap.size W w') := Lib.hid (fun W hW => by
                    have := CG.out W x (Below.trans B3.out (hW.mono B3.out.size)) (by rw [← hXd, ← Lib.size_eq]; omega)
                    rw [hX, hgt] at this
                    unfold ndVal at this
                    rw [hNP, hND] at this
                    exact this)
                  clear hx hxm hcL hX hXd hnd hndp hgt hNP hND hd0
                  by_cases i0 : i = 0
                  · have i0n : ¬ 0 < i := by omega
                    have i0z : ¬ (0 : Int) < i := by omega
                    have i0d : decide (0 < i) = false := decide_eq_false i0n
                    clear i0
                    repeat (first
                      | (go_at_call 22; refine (CGq.out _ W3v.out).mono ?_; rintro r w5 ⟨rfl, hb⟩; simp only []; have W5 := Lib.hid (Below.trans W3v.out (hb.mono W3v.out.size)); clear hb)
                      | go_skip | go_guarded | go_step | go_upon)
                    exact ⟨⟨i + 1, by go_num, by go_num, by omega, W5.out.alloc W5.out.size _⟩, by simp [Go.RowKit.intOf]; omega⟩
                  · obtain ⟨j, hj⟩ : ∃ j, i = j + 1 := ⟨i - 1, by omega⟩
                    have i0n : 0 < i := by omega
                    have i0z : (0 : Int) < i := by omega
                    have i0d : decide (0 < i) = true := decide_eq_true i0n
                    have hjz : (i : Int) - 1 = j := by omega
                    have hjl : (j : Int) < l := by omega
                    obtain ⟨y, hy⟩ : ∃ y, L[j]? = some y := ⟨L[j]'(by rw [HLl.out]; omega), List.getElem?_eq_getElem _⟩
                    obtain ⟨Y, hY, hYd⟩ := txt_of y
                    have hlt2 : NP.cmpL y x < 0 := by
                      have h1 := hy
                      have h2 := HX.out
                      rw [hj, ← HLe.out] at h2
                      rw [← HLe.out] at h1
                      exact names_lt HT.out h1 h2
                    have hbl : Op.bytesLess Y.toList X.toList = true := by rw [Lib.toList_data, Lib.toList_data, hYd, HXd.out, R1.RO.less_cmp, decide_eq_true hlt2]
                    have CY : Hid (∀ W, Below w3.heap.size w3 W → W.cell? ⟨gL, oL + j, none⟩ = some (.string Y)) := Lib.hid (fun W hW => by
                      have := HCL.out W hW j y hy
                      rw [hY] at this
                      exact this)
                    clear i0 hj hy hY hYd hlt2
                    repeat (first
                      | (go_at_call 22; refine (CGq.out _ W3v.out).mono ?_; rintro r w5 ⟨rfl, hb⟩; simp only []; have W5 := Lib.hid (Below.trans W3v.out (hb.mono W3v.out.size)); have cy := CY.out _ (W5.out.alloc W5.out.size (.cells #[.string NP', .int .i64 nd.kind, .string ND', .int .i64 nd.mode] 32)); clear hb)
                      | go_skip | go_guarded | go_step | go_upon)
                    exact ⟨⟨i + 1, by go_num, by go_num, by omega, W5.out.alloc W5.out.size _⟩, by simp [Go.RowKit.intOf]; omega⟩
                · have hPe : P.toList.isEmpty = false := by rw [Lib.toList_data, HPd.out]; simpa using hd0
                  rw [if_neg hd0] at hgt
                  obtain ⟨NP', hNP, _⟩ := txt_of nd.path
                  obtain ⟨ND', hND, _⟩ := txt_of nd.data
                  obtain ⟨P1, hP1⟩ : ∃ P1 : ByteArray, P ++ ⟨#[47]⟩ = P1 := ⟨_, rfl⟩
                  obtain ⟨P2, hP2⟩ : ∃ P2 : ByteArray, P1 ++ X = P2 := ⟨_, rfl⟩
                  have hP1d : P1.data.toList = d.path ++ [47] := by rw [← hP1]; simp [HPd.out]
                  have hP2d : P2.data.toList = d.path ++ 47 :: x := by rw [← hP2]; simp [hP1d, hXd]
                  have hP1s : P1.size ≤ 401 := by rw [Lib.size_eq, hP1d, List.length_append]; have := HPs.out; rw [Lib.size_eq, HPd.out] at this; simp; omega
                  have hPz : P.size + 1 ≤ 9223372036854775807 := by have := HPs.out; omega
                  have hPz2 : P1.size + X.size ≤ 9223372036854775807 := by omega
                  have hP2t : txt (d.path ++ 47 :: x) = .string P2 := by rw [← hP2d, txt_data]
                  have CGq : Hid (∀ W, Below w3.heap.size w3 W → Calls Tryd.prog 22 #[.slice (some ad) n ca, .string P2] W fun r w' => r = .returned (.tuple #[.agg #[.string NP', .int .i64 nd.kind, .string ND', .int .i64 nd.mode], .bool true]) ∧ Below W.heap.size W w') := Lib.hid (fun W hW => by
                    have := CG.out W (d.path ++ 47 :: x) (Below.trans B3.out (hW.mono B3.out.size)) (by have h1 := HPs.out; rw [Lib.size_eq, HPd.out] at h1; have h2 := hXs; rw [Lib.size_eq, hXd] at h2; rw [List.length_append, List.length_cons]; omega)
                    rw [hP2t, hgt] at this
                    unfold ndVal at this
                    rw [hNP, hND] at this
                    exact this)
                  clear hx hxm hcL hX hXd hnd hndp hgt hNP hND hd0 hP1d hP2d hP2t
                  by_cases i0 : i = 0
                  · have i0n : ¬ 0 < i := by omega
                    have i0z : ¬ (0 : Int) < i := by omega
                    have i0d : decide (0 < i) = false := decide_eq_false i0n
                    clear i0
                    repeat (first
                      | (go_at_call 22; refine (CGq.out _ W3v.out).mono ?_; rintro r w5 ⟨rfl, hb⟩; simp only []; have W5 := Lib.hid (Below.trans W3v.out (hb.mono W3v.out.size)); clear hb)
                      | go_skip | go_guarded | go_step | go_upon)
                    exact ⟨⟨i + 1, by go_num, by go_num, by omega, W5.out.alloc W5.out.size _⟩, by simp [Go.RowKit.intOf]; omega⟩
                  · obtain ⟨j, hj⟩ : ∃ j, i = j + 1 := ⟨i - 1, by omega⟩
                    have i0n : 0 < i := by omega
                    have i0z : (0 : Int) < i := by omega
                    have i0d : decide (0 < i) = true := decide_eq_true i0n
                    have hjz : (i : Int) - 1 = j := by omega
                    have hjl : (j : Int) < l := by omega
                    obtain ⟨y, hy⟩ : ∃ y, L[j]? = some y := ⟨L[j]'(by rw [HLl.out]; omega), List.getElem?_eq_getElem _⟩
                    obtain ⟨Y, hY, hYd⟩ := txt_of y
                    have hlt2 : NP.cmpL y x < 0 := by
                      have h1 := hy
                      have h2 := HX.out
                      rw [hj, ← HLe.out] at h2
                      rw [← HLe.out] at h1
                      exact names_lt HT.out h1 h2
                    have hbl : Op.bytesLess Y.toList X.toList = true := by rw [Lib.toList_data, Lib.toList_data, hYd, HXd.out, R1.RO.less_cmp, decide_eq_true hlt2]
                    have CY : Hid (∀ W, Below w3.heap.size w3 W → W.cell? ⟨gL, oL + j, none⟩ = some (.string Y)) := Lib.hid (fun W hW => by
                      have := HCL.out W hW j y hy
                      rw [hY] at this
                      exact this)
                    clear i0 hj hy hY hYd hlt2
                    repeat (first
                      | (go_at_call 22; refine (CGq.out _ W3v.out).mono ?_; rintro r w5 ⟨rfl, hb⟩; simp only []; have W5 := Lib.hid (Below.trans W3v.out (hb.mono W3v.out.size)); have cy := CY.out _ (W5.out.alloc W5.out.size (.cells #[.string NP', .int .i64 nd.kind, .string ND', .int .i64 nd.mode] 32)); clear hb)
                      | go_skip | go_guarded | go_step | go_upon)
                    exact ⟨⟨i + 1, by go_num, by go_num, by omega, W5.out.alloc W5.out.size _⟩, by simp [Go.RowKit.intOf]; omega⟩
              · have hilz : ¬ (i : Int) < l := by omega
                have hie : (c : Int) + (i : Int) = (c2 : Int) := by have := HC2.out; omega
                have BE := Lib.hid (Below.trans B3.out (W3v.out.mono B3.out.size))
                have HUE := Lib.hid (owns_below HU3.out W3v.out)
                clear hil
                repeat (first | go_skip | go_guarded | go_step | go_upon)
                exact ⟨⟨k + 1, by go_num, by rw [HCs.out, hie], by omega, HUE.out, BE.out⟩, by simp [Go.RowKit.intOf]; omega⟩
          · have hk2b : (d.kind != 2) = true := by simp [hk2]
            have hl0 := hfile hk2
            have hl0n : ¬ 0 < l := by omega
            have hl0z : ¬ (0 : Int) < l := by omega
            have hl0d : decide (0 < l) = false := decide_eq_false hl0n
            clear hk2 hfile hl0
            repeat (first | go_skip | go_guarded | go_step | go_upon)
            obtain ⟨wo, rfl⟩ : ∃ x, x = wr := ⟨_, rfl⟩
            go_loopw [44, 3] (fun s44 s3 wv => ∃ i : Nat, s44 = .int .i64 i ∧ s3 = .int .i64 ((c : Int) + (i : Int)) ∧ i ≤ l ∧ Below w3.heap.size w3 wv) (fun s44 _ _ => l - (Go.RowKit.intOf s44).toNat)
            case atStart => exact ⟨0, rfl, by simp, Nat.zero_le _, Below.refl _ _⟩
            case round =>
              obtain ⟨i, rfl, rfl, hi, hb⟩ := hrel
              have W3v := Lib.hid hb
              clear hb
              by_cases hil : i < l
              · exact absurd hil (by omega)
              · have hilz : ¬ (i : Int) < l := by omega
                have hie : (c : Int) + (i : Int) = (c2 : Int) := by have := HC2.out; omega
                have BE := Lib.hid (Below.trans B3.out (W3v.out.mono B3.out.size))
                have HUE := Lib.hid (owns_below HU3.out W3v.out)
                clear hil
                repeat (first | go_skip | go_guarded | go_step | go_upon)
                exact ⟨⟨k + 1, by go_num, by rw [HCs.out, hie], by omega, HUE.out, BE.out⟩, by simp [Go.RowKit.intOf]; omega⟩
        · have hkz : ¬ (k : Int) < nr := by omega
          have HCe : Hid (cntK ts k = n) := Lib.hid (by rw [cnt_end HT.out (by have := HNr.out; rw [List.length_cons] at this; omega), HN.out])
          obtain ⟨c, hc⟩ : ∃ c, cntK ts k = c := ⟨_, rfl⟩
          have hcn : c = n := by rw [← hc]; exact HCe.out
          rw [hc]
          subst hcn
          clear hlr hlt hck hc
          repeat (first | go_skip | go_guarded | go_step | go_upon)
          go_ret
          exact ⟨by simp, HB.out⟩
  · have hEb : ((E : Int) != 0) = true := by simp; omega
    have hnm : namesL ts [] = [] := names_none (by cases ht : treeB ts with | false => rfl | true => exact absurd (hEt.2 ht) e1)
    have cN := fun W (hW : Below w.heap.size w W) => CNm.out W [] hW (by simp)
    unfold NamesPost at cN
    rw [hnm] at cN
    have CN : Hid (∀ W, Below w.heap.size w W → Calls Tryd.prog 21 #[.slice ao n ca, .string ⟨#[]⟩] W fun r w' => ∃ v, r = .returned v ∧ w'.ownsRow W.heap.size 9 1 v 0 [] ∧ Below W.heap.size W w') := Lib.hid cN
    clear e1 hEt hnm cN
    go_enter Tryd.func6, Tryd.ntmps6
    repeat (first
      | (go_at_call 8; refine (CA.out _ (Below.refl _ _)).mono ?_; rintro r w1 ⟨rfl, hb⟩; simp only []; have B1 := Lib.hid hb; clear hb)
      | (go_at_call 18; refine (CCh.out _ B1.out).mono ?_; rintro r w2 ⟨rfl, hb⟩; simp only []; have B2 := Lib.hid (Below.trans B1.out (hb.mono B1.out.size)); clear hb)
      | (go_at_call 21; refine (CN.out _ B2.out).mono ?_; rintro r w3 ⟨u, rfl, ho, hb⟩; simp only []; have B3 := Lib.hid (Below.trans B2.out (hb.mono B2.out.size)); obtain ⟨a3, c3, rfl, _⟩ := owns_view ho; clear hb ho)
      | go_skip | go_guarded | go_step | go_upon)
    go_ret
    exact ⟨rfl, B3.out⟩
end TL
end Go.Proofs.YtlofdhnghidcnaaDoor
