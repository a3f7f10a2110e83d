/- The document's answer for layer 1: the contracts of the reference's Parent, Base, Fold, Texts, for texts of up to 1048576 bytes. -/
import Derived.Test.YtnikenhfpgoaoaaDoorRefPath
import Derived.Test.YtnikenhfpgoaoaaDoorNameLaws2
import Derived.Test.YtnikenhfpgoaoaaDoorNameFold
import Derived.Laws.BytesArg
namespace Go.Proofs.YtnikenhfpgoaoaaDoor
open Go.RowKit Go.Lib
namespace RT
open NF NC RP RN RQ NB NFo

theorem lies_last {s : ByteArray} {xs : List ByteArray} {bk n : Nat} {w : World} (h : xs.map (·.data.toList) = NP.cutOn s.data.toList) (hn : xs.length = n + 1) (hl : Lies bk xs w) :
    ∃ v : ByteArray, v.data.toList = NP.lastL s.data.toList ∧ w.cell? ⟨bk, n, none⟩ = some (.string v) ∧ v ∈ xs := by
  obtain ⟨x, hx⟩ : ∃ x, xs[n]? = some x := ⟨xs[n]'(by omega), List.getElem?_eq_getElem _⟩
  have h1 := last_part s.data.toList
  rw [← h, List.getLast?_map, List.getLast?_eq_getElem?, hn, Nat.add_sub_cancel, hx] at h1
  have := hl.cells n x hx
  rw [Nat.zero_add] at this
  exact ⟨x, by simpa using h1, this, List.mem_of_getElem? hx⟩
theorem up_take (l : List UInt8) (h : 2 ≤ (NP.cutOn l).length) : (NP.lastL l).length + 1 ≤ l.length ∧ NP.upL l = l.take (l.length - (NP.lastL l).length - 1) := by
  rcases NP.parts l with h0 | ⟨u, t, rfl, h0⟩
  · rw [NP.cutOn_none h0] at h; simp at h
  · rw [NP.lastL_snoc h0, NP.upL_snoc h0]
    have e : (u ++ 47 :: t).length - t.length - 1 = u.length := by simp; omega
    rw [e]
    exact ⟨by simp, by simp⟩
theorem up_one (l : List UInt8) (h : (NP.cutOn l).length < 2) : NP.upL l = [] := by
  have := NP.cutOn_length l
  apply NP.upL_none
  intro hm
  have := List.count_pos_iff.2 hm
  omega
set_option maxHeartbeats 1600000 in
theorem rparent_any (s : ByteArray) (w : World) (hs : s.size ≤ 1048576) :
    Calls Tryd.prog 14 #[.string s] w (TextPost (NP.parentL s.data.toList) w) := by
  cases hp : NP.pathL s.data.toList
  · have Hf : Hid (NP.parentL s.data.toList = []) := Lib.hid (by unfold NP.parentL; rw [hp]; rfl)
    have cS := rsplit_no s w hs hp
    clear hp
    go_enter Tryd.func14, Tryd.ntmps14
    go_wp2_with fail
    refine cS.mono ?_
    rintro e w1 ⟨rfl, hb⟩
    go_wp2
    go_ret
    exact ⟨_, rfl, by rw [Hf.out], hb⟩
  · have Hf : Hid (NP.parentL s.data.toList = NP.upL s.data.toList) := Lib.hid (by unfold NP.parentL; rw [hp]; rfl)
    have cS := rsplit_yes s w hs hp
    clear hp
    go_enter Tryd.func14, Tryd.ntmps14
    go_wp2_with fail
    refine cS.mono ?_
    rintro e w1 ⟨bk, c, xs, rfl, hc, hx, hsz, hl, hbk, hb⟩
    have hxl : xs.length = (NP.cutOn s.data.toList).length := by rw [← hx, List.length_map]
    have hcl := NP.cutOn_length s.data.toList
    have hct : s.data.toList.count 47 ≤ s.data.toList.length := List.count_le_length
    have hle : xs.length ≤ 1048577 := by rw [Lib.size_eq] at hs; omega
    by_cases h2 : 2 ≤ xs.length
    · obtain ⟨n, hn⟩ : ∃ n, xs.length = n + 1 := ⟨xs.length - 1, by omega⟩
      obtain ⟨v, hv, hcell, hmem⟩ := lies_last hx hn hl
      obtain ⟨hu1, hu2⟩ := up_take s.data.toList (by omega)
      rw [← hv, ← Lib.size_eq, ← Lib.size_eq] at hu1 hu2
      have Hu := Lib.hid hu2
      have hvz : (v.size : Int) + 1 ≤ s.size := by omega
      have hnz : ¬ ((n : Int) + 1 < 2) := by omega
      have hn9 : (n : Int) ≤ 1048577 := by omega
      obtain ⟨m, hm⟩ : ∃ m : Nat, s.size = m + v.size + 1 := ⟨s.size - v.size - 1, by omega⟩
      have hmz : (s.size : Int) - v.size - 1 = m := by omega
      have Hm : Hid (m = s.size - v.size - 1) := Lib.hid (by omega)
      have hm1 : (m : Int) ≤ s.size := by omega
      rw [hn]
      have Hmz := Lib.hid hmz
      clear hn hx hsz hl hbk hxl hcl hct hu2 hu1 hmem hv hm hmz cS
      go_wp2_with fail
      go_ret
      refine ⟨_, rfl, ?_, hb⟩
      rw [Hf.out, Hu.out, ← extract_to]
    · have hnz : (xs.length : Int) < 2 := by omega
      have Hu := Lib.hid (up_one s.data.toList (by omega))
      clear hx hsz hl hbk hxl hcl hct cS
      go_wp2
      go_ret
      exact ⟨_, rfl, by rw [Hf.out, Hu.out], hb⟩
set_option maxHeartbeats 1600000 in
theorem rbase_any (s : ByteArray) (w : World) (hs : s.size ≤ 1048576) :
    Calls Tryd.prog 16 #[.string s] w (TextPost (NP.baseL s.data.toList) w) := by
  cases hp : NP.pathL s.data.toList
  · have Hf : Hid (NP.baseL s.data.toList = []) := Lib.hid (by unfold NP.baseL; rw [hp]; rfl)
    have cS := rsplit_no s w hs hp
    clear hp
    go_enter Tryd.func16, Tryd.ntmps16
    go_wp2_with fail
    refine cS.mono ?_
    rintro e w1 ⟨rfl, hb⟩
    go_wp2
    go_ret
    exact ⟨_, rfl, by rw [Hf.out], hb⟩
  · have Hf : Hid (NP.baseL s.data.toList = NP.lastL s.data.toList) := Lib.hid (by unfold NP.baseL; rw [hp]; rfl)
    have cS := rsplit_yes s w hs hp
    clear hp
    go_enter Tryd.func16, Tryd.ntmps16
    go_wp2_with fail
    refine cS.mono ?_
    rintro e w1 ⟨bk, c, xs, rfl, hc, hx, hsz, hl, hbk, hb⟩
    have hxl : xs.length = (NP.cutOn s.data.toList).length := by rw [← hx, List.length_map]
    have hcl := NP.cutOn_length s.data.toList
    have hct : s.data.toList.count 47 ≤ s.data.toList.length := List.count_le_length
    have hle : xs.length ≤ 1048577 := by rw [Lib.size_eq] at hs; omega
    obtain ⟨n, hn⟩ : ∃ n, xs.length = n + 1 := ⟨xs.length - 1, by omega⟩
    obtain ⟨v, hv, hcell, hmem⟩ := lies_last hx hn hl
    have Hv := Lib.hid hv
    have hb0 : ((((n + 1 : Nat)) : Int) == 0) = false := beq_eq_false_iff_ne.2 (by omega)
    have hb1 : ((n : Int) + 1 == 0) = false := beq_eq_false_iff_ne.2 (by omega)
    have hn9 : (n : Int) ≤ 1048577 := by omega
    rw [hn]
    clear hn hx hsz hl hbk hxl hcl hct hmem hv cS
    go_wp2_with fail
    go_ret
    exact ⟨_, rfl, by rw [Hf.out, Hv.out], hb⟩

/- Texts: two lists of the same texts -/
theorem texts_nil (a b : Option Addr) (c d : Nat) (w : World) :
    Calls Tryd.prog 19 #[.slice a 0 c, .slice b 0 d] w fun e w' => e = .returned (.bool true) ∧ Below w.heap.size w w' := by
  go_enter Tryd.func19, Tryd.ntmps19
  go_wp2
  refine wp_loop_rounds 1 ?_
  rw [rounds_succ]
  go_wp2
  go_ret
  exact ⟨rfl, Below.refl _ _⟩
set_option maxHeartbeats 1600000 in
theorem texts_same (b1 b2 c1 c2 : Nat) (xs ys : List ByteArray) (w : World) (h1 : Lies b1 xs w) (h2 : Lies b2 ys w) (he : xs.map (·.data.toList) = ys.map (·.data.toList)) (hle : xs.length ≤ 1048577) :
    Calls Tryd.prog 19 #[.slice (some ⟨b1, 0, none⟩) xs.length c1, .slice (some ⟨b2, 0, none⟩) ys.length c2] w fun e w' => e = .returned (.bool true) ∧ Below w.heap.size w w' := by
  have exy : xs = ys := by
    have key : ∀ (xs ys : List ByteArray), xs.map (·.data.toList) = ys.map (·.data.toList) → xs = ys := by
      intro xs
      induction xs with
      | nil => intro ys h; cases ys with | nil => rfl | cons y ys => simp at h
      | cons x xs ih =>
        intro ys h
        cases ys with
        | nil => simp at h
        | cons y ys =>
          simp only [List.map_cons, List.cons.injEq] at h
          rw [byte_ext h.1, ih ys h.2]
    exact key xs ys he
  subst exy
  have H1 := Lib.hid h1
  have H2 := Lib.hid h2
  clear h1 h2 he
  go_enter Tryd.func19, Tryd.ntmps19
  go_wp2
  go_loopw [5] (fun i wr => ∃ k : Nat, k ≤ xs.length ∧ i = .int .i64 k ∧ NO.Drawn w wr) (fun i _ => xs.length - (Go.RowKit.intOf i).toNat)
  case atStart => exact ⟨0, Nat.zero_le _, rfl, NO.Drawn.refl _⟩
  case round =>
    obtain ⟨k, hk, rfl, n, rfl⟩ := hrel
    by_cases hlt : k < xs.length
    · obtain ⟨x, hx⟩ : ∃ x, xs[k]? = some x := ⟨xs[k], List.getElem?_eq_getElem hlt⟩
      have hz : (k : Int) < xs.length := by omega
      have ca : w.cell? ⟨b1, k, none⟩ = some (.string x) := by have := H1.out.cells k x hx; rw [Nat.zero_add] at this; exact this
      have cb : w.cell? ⟨b2, k, none⟩ = some (.string x) := by have := H2.out.cells k x hx; rw [Nat.zero_add] at this; exact this
      clear hx
      go_wp2
      go_quiet (fail)
      go_wp2
      go_roundw
      case rel => exact ⟨k + 1, by omega, by go_num, _, rfl⟩
      case measure => simp [Go.RowKit.intOf]; omega
    · have hz : ¬ (k : Int) < xs.length := by omega
      go_wp2
      go_ret
      exact ⟨rfl, NA.below_drewN (Below.refl _ _) n⟩

/- Fold -/
theorem rinfo8 : (Tryd.prog.info? 5).map (fun i => (i.zero, i.size, i.bytes)) = some (some (.int .u8 0), 1, 1) := by kernel_rfl
def cellsB (l : List UInt8) : List Value := l.map fun c => .int .u8 c.toNat
def FRel (s : ByteArray) (B : Nat) (w : World) (v i : Value) (wr : World) : Prop :=
  ∃ k : Nat, k ≤ s.size ∧ i = .int .i64 k ∧ wr.ownsRow B 5 1 v k (cellsB ((foldL s.data.toList).take k)) ∧ Below B w wr
theorem fold_take (s : ByteArray) (k : Nat) (h : k < s.size) : (foldL s.data.toList).take (k + 1) = (foldL s.data.toList).take k ++ [fold1 s[k]] := by
  have e : (foldL s.data.toList)[k]? = some (fold1 s[k]) := by
    unfold foldL
    rw [List.getElem?_map, Lib.data_getElem? s k h]
    rfl
  rw [List.take_add_one, e]
  rfl
theorem fold_conv {s : ByteArray} {w wr : World} {v : Value} {k : Nat} (hkl : k = (foldL s.data.toList).length) (ho : wr.ownsRow w.heap.size 5 1 v k (cellsB ((foldL s.data.toList).take k))) :
    (convert 38 9 v).run Tryd.prog wr = .ok (.string ⟨(foldL s.data.toList).toArray⟩) wr := by
  rw [hkl, List.take_length] at ho
  have ho2 := ho
  obtain ⟨h1, ⟨rfl, h2⟩ | ⟨g, cap, cur, rfl, hg, hh, hcap, hm, hcs, htk⟩⟩ := ho
  · have e0 : foldL s.data.toList = [] := List.length_eq_zero_iff.1 h2
    rw [e0]
    exact run_convert_bytes_nil (P := Tryd.prog) wr 38 5 Tryd.underlying38 Tryd.underlying5 0 0 9 Tryd.underlying9
  · exact run_convert_bytes_back (P := Tryd.prog) wr 38 9 5 ⟨g, 0, none⟩ cap (foldL s.data.toList) Tryd.underlying38 Tryd.underlying5 Tryd.underlying9 (fun j hj => by
      have := ho2.cells (g := g) rfl j (.int .u8 ((foldL s.data.toList)[j].toNat : Nat)) (by unfold cellsB; rw [List.getElem?_map, List.getElem?_eq_getElem hj]; rfl)
      exact this)
set_option maxHeartbeats 1600000 in
theorem rfold_any (s : ByteArray) (w : World) (hs : s.size ≤ 1048576) :
    Calls Tryd.prog 18 #[.string s] w (FoldPost s w) := by
  obtain ⟨i0, hi, hz0, hz1, hz2⟩ := info_parts rinfo8
  go_enter Tryd.func18, Tryd.ntmps18
  go_wp2
  go_loopw [3, 4] (FRel s w.heap.size w) (fun _ i _ => s.size - (Go.RowKit.intOf i).toNat)
  case atStart => exact ⟨0, Nat.zero_le _, rfl, World.ownsRow_nil _ _ _ _, Below.refl _ _⟩
  case round =>
    obtain ⟨k, hk, rfl, hown, hb⟩ := hrel
    have HO := Lib.hid hown
    have HB := Lib.hid hb
    have hbs : w.heap.size ≤ wr.heap.size := hb.size
    clear hown hb
    by_cases hlt : k < s.size
    · have hz : (k : Int) < s.size := by omega
      have HT := Lib.hid (fold_take s k hlt)
      have h256 := NO.u8_lt s[k]
      have h00 : (0 : Int) ≤ ((s[k].toNat : Nat) : Int) := by omega
      by_cases hf : 65 ≤ s[k].toNat ∧ s[k].toNat ≤ 90
      · obtain ⟨hf1, hf2⟩ := hf
        have hi1 : (65 : Int) ≤ ((s[k].toNat : Nat) : Int) := by omega
        have hi2 : ((s[k].toNat : Nat) : Int) ≤ 90 := by omega
        have HE : Hid (((s[k].toNat : Nat) : Int) - 65 + 97 = ((fold1 s[k]).toNat : Nat)) := Lib.hid (by rw [fold1_hit hf1 hf2]; omega)
        go_wp2_with (first | (at_builtin; refine wpList_append_own _ rfl _ _ 38 rfl w.heap.size 5 i0 (.int .u8 0) 1 1 Tryd.underlying38 hi hz0 hz1 hz2 rfl (by decide) _ _ _ rfl (HO.out.alloc _) ⟨wr.heap.size, 0, none⟩ 1 1 [.int .u8 ((s[k].toNat : Int) - 65 + 97)] rfl rfl (one_new _ _ _) (fun x hx => by simp at hx; subst hx; rfl) (by unfold maxLen; omega) (by omega) (by simp; omega) ?_; intro v' w3 hown' hgrow3 hnil3))
        have HO2 : Hid (w3.ownsRow w.heap.size 5 1 v' (k + 1) (cellsB ((foldL s.data.toList).take (k + 1)))) := Lib.hid (by
          rw [HT.out]
          unfold cellsB
          rw [List.map_append, List.map_cons, List.map_nil, ← HE.out]
          exact hown')
        have HB2 := Lib.hid ((HB.out.alloc hbs (.cells #[.int .u8 ((s[k].toNat : Int) - 65 + 97)] 5)).grown hgrow3 (by simp; omega) (fun j hj => (HO.out.lt j hj).1))
        clear hown' hgrow3 hnil3
        go_wp2
        go_roundw
        case rel => exact ⟨k + 1, by omega, by go_num, HO2.out, HB2.out⟩
        case measure => simp [Go.RowKit.intOf]; omega
      · have HE : Hid (((s[k].toNat : Nat) : Int) = ((fold1 s[k]).toNat : Nat)) := Lib.hid (by rw [fold1_miss hf])
        by_cases hf1 : 65 ≤ s[k].toNat
        all_goals
          first
            | (have hi1 : (65 : Int) ≤ ((s[k].toNat : Nat) : Int) := by omega
               have hi2 : ¬ ((s[k].toNat : Nat) : Int) ≤ 90 := by omega)
            | (have hi1 : ¬ (65 : Int) ≤ ((s[k].toNat : Nat) : Int) := by omega)
          clear hf
          go_wp2_with (first | (at_builtin; refine wpList_append_own _ rfl _ _ 38 rfl w.heap.size 5 i0 (.int .u8 0) 1 1 Tryd.underlying38 hi hz0 hz1 hz2 rfl (by decide) _ _ _ rfl (HO.out.alloc _) ⟨wr.heap.size, 0, none⟩ 1 1 [.int .u8 (s[k].toNat : Int)] rfl rfl (one_new _ _ _) (fun x hx => by simp at hx; subst hx; rfl) (by unfold maxLen; omega) (by omega) (by simp; omega) ?_; intro v' w3 hown' hgrow3 hnil3))
          have HO2 : Hid (w3.ownsRow w.heap.size 5 1 v' (k + 1) (cellsB ((foldL s.data.toList).take (k + 1)))) := Lib.hid (by
            rw [HT.out]
            unfold cellsB
            rw [List.map_append, List.map_cons, List.map_nil, ← HE.out]
            exact hown')
          have HB2 := Lib.hid ((HB.out.alloc hbs (.cells #[.int .u8 (s[k].toNat : Int)] 5)).grown hgrow3 (by simp; omega) (fun j hj => (HO.out.lt j hj).1))
          clear hown' hgrow3 hnil3
          go_wp2
          go_roundw
          case rel => exact ⟨k + 1, by omega, by go_num, HO2.out, HB2.out⟩
          case measure => simp [Go.RowKit.intOf]; omega
    · have hz : ¬ (k : Int) < s.size := by omega
      have hkl : k = (foldL s.data.toList).length := by unfold foldL; rw [List.length_map, ← Lib.size_eq]; omega
      have hrun := fold_conv hkl HO.out
      clear hkl
      go_wp2
      go_ret
      exact ⟨_, rfl, rfl, HB.out⟩
end RT
end Go.Proofs.YtnikenhfpgoaoaaDoor
