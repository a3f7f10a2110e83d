/- The document's answer for layer 1: the contract of the reference's Parts: what stands between the slashes, in order; for a text of up to 1048576 bytes. -/
import Derived.Test.YtkfddnkeoopfbaaDoorRefName
import Derived.Test.YtkfddnkeoopfbaaDoorNamePath
import Derived.OwnWalk
import Derived.Laws.AppendOwn
import Derived.Laws.OwnMore
namespace Go.Proofs.YtkfddnkeoopfbaaDoor
open Go.RowKit Go.Lib
namespace RP
open NF

theorem cut_cons {u r : List UInt8} (h : 47 ∉ u) : NP.cutOn (u ++ 47 :: r) = u :: NP.cutOn r := by
  induction u with
  | nil =>
    show NP.cutOn (47 :: r) = _
    rw [NP.cutOn, if_pos rfl]
  | cons x u ih =>
    have hx : x ≠ 47 := by rintro rfl; simp at h
    have hu : 47 ∉ u := fun e => h (by simp [e])
    show NP.cutOn (x :: (u ++ 47 :: r)) = _
    rw [NP.cutOn, if_neg hx, ih hu]
theorem piece_data (s : ByteArray) (a b : Nat) : (s.extract a b).data.toList = (s.data.toList.drop a).take (b - a) := Lib.extract_data s a b
/-- The loop's state behind k bytes: what has been laid, and where the next part begins. -/
structure St (s : ByteArray) (k fr : Nat) (done : List ByteArray) : Prop where
  le : k ≤ s.size
  lo : fr ≤ k
  no : 47 ∉ (s.data.toList.drop fr).take (k - fr)
  eq : done.map (·.data.toList) ++ NP.cutOn (s.data.toList.drop fr) = NP.cutOn s.data.toList
theorem St.zero (s : ByteArray) : St s 0 0 [] := ⟨Nat.zero_le _, Nat.le_refl _, by simp, by simp⟩
theorem St.skip {s : ByteArray} {k fr : Nat} {done : List ByteArray} (h : St s k fr done) (hk : k < s.size) (hx : s[k] ≠ 47) : St s (k + 1) fr done := by
  refine ⟨hk, Nat.le_succ_of_le h.lo, ?_, h.eq⟩
  have e : k + 1 - fr = (k - fr) + 1 := by have := h.lo; omega
  rw [e, List.take_add_one]
  have hg : (s.data.toList.drop fr)[k - fr]? = some s[k] := by
    rw [List.getElem?_drop]
    have : fr + (k - fr) = k := by have := h.lo; omega
    rw [this]
    exact Lib.data_getElem? s k hk
  rw [hg]
  simp only [Option.toList_some, List.mem_append, List.mem_singleton, not_or]
  exact ⟨h.no, fun e => hx e.symm⟩
theorem St.cut {s : ByteArray} {k fr : Nat} {done : List ByteArray} (h : St s k fr done) (hk : k < s.size) (hx : s[k] = 47) : St s (k + 1) (k + 1) (done ++ [s.extract fr k]) := by
  refine ⟨hk, Nat.le_refl _, by simp, ?_⟩
  rw [← h.eq]
  have hk2 : k < s.data.toList.length := by rw [← Lib.size_eq]; exact hk
  have hv : s.data.toList[k] = 47 := by
    have := Lib.data_getElem? s k hk
    rw [List.getElem?_eq_getElem hk2, Option.some.injEq] at this
    rw [this, hx]
  have e : s.data.toList.drop fr = (s.data.toList.drop fr).take (k - fr) ++ 47 :: s.data.toList.drop (k + 1) := by
    have h1 := List.take_append_drop (k - fr) (s.data.toList.drop fr)
    rw [List.drop_drop] at h1
    have e2 : fr + (k - fr) = k := by have := h.lo; omega
    rw [e2, List.drop_eq_getElem_cons hk2, hv] at h1
    exact h1.symm
  rw [List.map_append, List.append_assoc]
  congr 1
  conv => rhs; rw [e, cut_cons h.no]
  rw [List.map_cons, List.map_nil, piece_data]
  rfl
theorem St.last {s : ByteArray} {fr : Nat} {done : List ByteArray} (h : St s s.size fr done) : (done ++ [s.extract fr s.size]).map (·.data.toList) = NP.cutOn s.data.toList := by
  rw [← h.eq, List.map_append]
  congr 1
  have e : (s.data.toList.drop fr).take (s.size - fr) = s.data.toList.drop fr := by
    rw [List.take_of_length_le]
    rw [List.length_drop, ← Lib.size_eq]
    exact Nat.le_refl _
  have hn := h.no
  rw [e] at hn
  rw [List.map_cons, List.map_nil, piece_data, e, NP.cutOn_none hn]
def PRel (s : ByteArray) (B : Nat) (w : World) (v f i : Value) (wr : World) : Prop :=
  ∃ (k fr : Nat) (done : List ByteArray), i = .int .i64 k ∧ f = .int .i64 fr ∧ wr.ownsRow B 9 1 v done.length (done.map Value.string) ∧ Below B w wr ∧ done.length ≤ k ∧
    (St s k fr done ∨ k = s.size + 1 ∧ done.map (·.data.toList) = NP.cutOn s.data.toList) ∧ (∀ x ∈ done, x.size ≤ s.size)
def PartsPost (s : ByteArray) (w : World) (e : Ending) (w' : World) : Prop := ∃ (bk c : Nat) (xs : List ByteArray), e = .returned (.slice (some ⟨bk, 0, none⟩) xs.length c) ∧ xs.length ≤ c ∧
      xs.map (·.data.toList) = NP.cutOn s.data.toList ∧ (∀ x ∈ xs, x.size ≤ s.size) ∧ Lies bk xs w' ∧ w.heap.size ≤ bk ∧ Below w.heap.size w w'
theorem infoS : (Tryd.prog.info? 9).map (fun i => (i.zero, i.size, i.bytes)) = some (some (.string ByteArray.empty), 1, 16) := by kernel_rfl
theorem post_row {s : ByteArray} {w w' : World} {v : Value} {done : List ByteArray} (ho : w'.ownsRow w.heap.size 9 1 v done.length (done.map Value.string)) (hb : Below w.heap.size w w')
    (he : done.map (·.data.toList) = NP.cutOn s.data.toList) (hs : ∀ x ∈ done, x.size ≤ s.size) : PartsPost s w (.returned v) w' := by
  have hne : done ≠ [] := by
    rintro rfl
    exact NP.cutOn_ne s.data.toList he.symm
  have hlen : 0 < done.length := List.length_pos_iff.2 hne
  have ho2 := ho
  obtain ⟨h1, h2 | ⟨g, cap, cur, rfl, hg, hh, hcap, hm, hcs, htk⟩⟩ := ho
  · omega
  · refine ⟨g, cap, done, rfl, hcap, he, hs, ⟨fun j x hj => ?_, ?_⟩, hg, hb⟩
    · have := ho2.cells (g := g) rfl j (.string x) (by rw [List.getElem?_map, hj]; rfl)
      rw [← this]
      have e : (⟨g, 0, none⟩ : Addr).add j = ⟨g, 0 + j, none⟩ := by
        simp only [Addr.add]
        split <;> simp_all
      rw [e]
    · exact (Array.getElem?_eq_some_iff.1 hh).1
theorem one_new (w : World) (x : Value) (t : TypeId) : ∀ (j : Nat) (u : Value), [x][j]? = some u → (w.alloc (.cells #[x] t)).cell? ((⟨w.heap.size, 0, none⟩ : Addr).add j) = some u := by
  intro j u hj
  match j with
  | 0 =>
    simp at hj
    subst hj
    have e : (⟨w.heap.size, 0, none⟩ : Addr).add 0 = ⟨w.heap.size, 0, none⟩ := rfl
    rw [e, World.cell?_alloc_at _ _ _ _ rfl]
    rfl
  | j + 1 => simp at hj
set_option maxRecDepth 100000 in
set_option maxHeartbeats 1600000 in
theorem parts_any (s : ByteArray) (w : World) (hs : s.size ≤ 1048576) :
    Calls Tryd.prog 17 #[.string s] w (PartsPost s w) := by
  obtain ⟨i0, hi, hz0, hz1, hz2⟩ := info_parts infoS
  go_enter Tryd.func17, Tryd.ntmps17
  go_wp2
  go_loopw [3, 4, 5] (PRel s w.heap.size w) (fun _ _ i _ => s.size + 1 - (Go.RowKit.intOf i).toNat)
  case atStart => exact ⟨0, 0, [], rfl, rfl, World.ownsRow_nil _ _ _ _, Below.refl _ _, Nat.le_refl _, .inl (St.zero s), by simp⟩
  case round =>
    obtain ⟨k, fr, done, rfl, rfl, hown, hb, hdl, hst, hsz⟩ := hrel
    have HO := Lib.hid hown
    have HB := Lib.hid hb
    have HS := Lib.hid hsz
    clear hown hb hsz
    rcases hst with hst | ⟨hk, he⟩
    · have hk := hst.le
      have hfr := hst.lo
      have HT := Lib.hid hst
      clear hst
      have hkz : (k : Int) ≤ s.size := by omega
      have hfz : (fr : Int) ≤ k := by omega
      have hbs : w.heap.size ≤ wr.heap.size := HB.out.size
      have hall : ∀ x ∈ done ++ [s.extract fr k], x.size ≤ s.size := by
        intro x hx
        rcases List.mem_append.1 hx with hx | hx
        · exact HS.out x hx
        · simp only [List.mem_singleton] at hx
          subst hx
          rw [ByteArray.size_extract]; omega
      have Hall := Lib.hid hall
      clear hall
      by_cases hlast : k = s.size
      · have hbz : ((k : Int) == (s.size : Int)) = true := beq_iff_eq.2 (by omega)
        have HE : Hid ((done ++ [s.extract fr k]).map (·.data.toList) = NP.cutOn s.data.toList) := Lib.hid (by rw [hlast]; rw [hlast] at HT; exact HT.out.last)
        have Hl := Lib.hid hlast
        clear hlast
        go_wp2_with (first | (at_builtin; refine wpList_append_own _ rfl _ _ 36 rfl w.heap.size 9 i0 (.string ByteArray.empty) 1 16 Tryd.underlying36 hi hz0 hz1 hz2 rfl (by decide) _ _ _ rfl (HO.out.alloc _) ⟨wr.heap.size, 0, none⟩ 1 1 [.string (s.extract fr k)] rfl rfl (one_new _ _ _) (fun x hx => by simp at hx; subst hx; rfl) (by unfold maxLen; omega) (by omega) (by simp; omega) ?_; intro v' w3 hown' hgrow3 hnil3))
        have hown2 : w3.ownsRow w.heap.size 9 1 v' (done ++ [s.extract fr k]).length ((done ++ [s.extract fr k]).map Value.string) := by
          rw [List.length_append, List.map_append]; exact hown'
        have HO2 := Lib.hid hown2
        have HB2 := Lib.hid ((HB.out.alloc hbs (.cells #[.string (s.extract fr k)] 9)).grown hgrow3 (by simp; omega) (fun j hj => (HO.out.lt j hj).1))
        clear hown' hgrow3 hnil3 hown2
        go_wp2
        go_roundw
        case rel => exact ⟨k + 1, k + 1, done ++ [s.extract fr k], by go_num, by go_num, HO2.out, HB2.out, by simp; omega, .inr ⟨by rw [Hl.out], HE.out⟩, Hall.out⟩
        case measure => simp [Go.RowKit.intOf]; omega
      · have hbz : ((k : Int) == (s.size : Int)) = false := beq_eq_false_iff_ne.2 (by omega)
        have hlt : k < s.size := by omega
        have hkz2 : (k : Int) < s.size := by omega
        by_cases hx : s[k] = 47
        · have hcb : ((((s[k]).toNat : Nat) : Int) == 47) = true := by rw [hx]; rfl
          have HE := Lib.hid (HT.out.cut hlt hx)
          clear hx hlast
          go_wp2_with (first | (at_builtin; refine wpList_append_own _ rfl _ _ 36 rfl w.heap.size 9 i0 (.string ByteArray.empty) 1 16 Tryd.underlying36 hi hz0 hz1 hz2 rfl (by decide) _ _ _ rfl (HO.out.alloc _) ⟨wr.heap.size, 0, none⟩ 1 1 [.string (s.extract fr k)] rfl rfl (one_new _ _ _) (fun x hx => by simp at hx; subst hx; rfl) (by unfold maxLen; omega) (by omega) (by simp; omega) ?_; intro v' w3 hown' hgrow3 hnil3))
          have hown2 : w3.ownsRow w.heap.size 9 1 v' (done ++ [s.extract fr k]).length ((done ++ [s.extract fr k]).map Value.string) := by
            rw [List.length_append, List.map_append]; exact hown'
          have HO2 := Lib.hid hown2
          have HB2 := Lib.hid ((HB.out.alloc hbs (.cells #[.string (s.extract fr k)] 9)).grown hgrow3 (by simp; omega) (fun j hj => (HO.out.lt j hj).1))
          clear hown' hgrow3 hnil3 hown2
          go_wp2
          go_roundw
          case rel => exact ⟨k + 1, k + 1, done ++ [s.extract fr k], by go_num, by go_num, HO2.out, HB2.out, by simp; omega, .inl HE.out, Hall.out⟩
          case measure => simp [Go.RowKit.intOf]; omega
        · have hcb : ((((s[k]).toNat : Nat) : Int) == 47) = false := by
            apply beq_eq_false_iff_ne.2
            intro e
            apply hx
            apply UInt8.toNat_inj.1
            show _ = 47
            omega
          have HE := Lib.hid (HT.out.skip hlt hx)
          clear hx hlast
          go_wp2
          go_roundw
          case rel => exact ⟨k + 1, fr, done, by go_num, rfl, HO.out, HB.out, by omega, .inl HE.out, HS.out⟩
          case measure => simp [Go.RowKit.intOf]; omega
    · have hkz : ¬ (k : Int) ≤ s.size := by omega
      have HF := Lib.hid (post_row HO.out HB.out he HS.out)
      clear he
      go_wp2
      go_ret
      exact HF.out
end RP
end Go.Proofs.YtkfddnkeoopfbaaDoor
