/- The document's answer: Literal. -/
import Derived.Test.YtdnncacplnfllaaDoorGlobLit
import Derived.Test.YtdnncacplnfllaaDoorRefParts
import Derived.Test.YtdnncacplnfllaaDoorRefPath
import Derived.Test.YtdnncacplnfllaaDoorGlobRead
import Derived.Laws.BytesArg
import Derived.Laws.OwnMore
namespace Go.Proofs.YtdnncacplnfllaaDoor
open Go.RowKit Go.Lib
namespace RG
open NF RQ LitN
theorem lit_next {s : ByteArray} {k : Nat} (h : k < s.size) (hs : spB s[k] = true) : litL (s.data.toList.take (k + 1)) = litL (s.data.toList.take k) ++ [92] ++ [s[k]] := by
  have e : s.data.toList.take (k + 1) = s.data.toList.take k ++ [s[k]] := by rw [List.take_add_one, Lib.data_getElem? s k h]; rfl
  rw [e, litL_app]
  simp [litL, hs]
theorem lit_plain {s : ByteArray} {k : Nat} (h : k < s.size) (hs : spB s[k] = false) : litL (s.data.toList.take (k + 1)) = litL (s.data.toList.take k) ++ [s[k]] := by
  have e : s.data.toList.take (k + 1) = s.data.toList.take k ++ [s[k]] := by rw [List.take_add_one, Lib.data_getElem? s k h]; rfl
  rw [e, litL_app]
  simp [litL, hs]
theorem infoU : (Tryd.prog.info? 5).map (fun i => (i.zero, i.size, i.bytes)) = some (some (.int .u8 0), 1, 1) := by kernel_rfl
set_option maxRecDepth 100000 in
set_option maxHeartbeats 3200000 in
theorem rliteral_any (s : ByteArray) (w : World) (hs : s.size ≤ 1048576) :
    Calls Tryd.prog 14 #[.string s] w (LitPost s w) := by
  obtain ⟨i0, hi, hz0, hz1, hz2⟩ := info_parts infoU
  have cP := rpath_any s w hs
  cases hp : NP.pathL s.data.toList
  · rw [hp] at cP
    have HA : Hid (litA s.data.toList = []) := Lib.hid (by unfold litA; rw [if_neg (by rw [hp]; simp)])
    clear hp
    go_enter Tryd.func14, Tryd.ntmps14
    go_wp2_with fail
    refine cP.mono ?_
    rintro e w1 ⟨rfl, hb⟩
    have Hb := Lib.hid hb
    clear hb cP
    go_wp2_with fail
    go_ret
    exact ⟨⟨#[]⟩, rfl, by rw [HA.out], Hb.out⟩
  · rw [hp] at cP
    have HA : Hid (litA s.data.toList = litL s.data.toList) := Lib.hid (by unfold litA; rw [if_pos hp])
    have hne : s.data.toList ≠ [] := by
      intro e
      rw [e] at hp
      revert hp
      decide
    have hlL : Hid (litL s.data.toList ≠ []) := Lib.hid (by
      obtain ⟨x, t, e⟩ := List.exists_cons_of_ne_nil hne
      rw [e]
      have : litL (x :: t) = (if spB x = true then [92, x] else [x]) ++ litL t := by simp [litL]
      rw [this]
      split <;> simp)
    clear hp hne
    go_enter Tryd.func14, Tryd.ntmps14
    go_wp2_with fail
    refine cP.mono ?_
    rintro e w1 ⟨rfl, hb1⟩
    have Hb1 := Lib.hid hb1
    clear hb1 cP
    go_wp2_with fail
    go_loopw [3, 4] (fun s3 s4 wr => ∃ k : Nat, k ≤ s.size ∧ s4 = .int .i64 k ∧ wr.ownsRow w1.heap.size 5 1 s3 (litL (s.data.toList.take k)).length (Lib.byteCells (litL (s.data.toList.take k))) ∧ Below w1.heap.size w1 wr) (fun _ s4 _ => s.size - (Go.RowKit.intOf s4).toNat)
    case atStart => exact ⟨0, Nat.zero_le _, rfl, World.ownsRow_nil _ _ _ _, Below.refl _ _⟩
    case round =>
      obtain ⟨k, hk, rfl, hown, hb⟩ := hrel
      have HO := Lib.hid hown
      have HB := Lib.hid hb
      have hbs := hb.size
      have hlen : (litL (s.data.toList.take k)).length ≤ 2097152 := by
        have h1 := litL_len (s.data.toList.take k)
        rw [List.length_take, ← Lib.size_eq] at h1
        omega
      clear hown hb
      by_cases hlt : k < s.size
      · have hz : (k : Int) < s.size := by omega
        by_cases h42 : s[k] = 42
        · have e42 : ((((s[k]).toNat : Nat) : Int) == 42) = true := by rw [h42]; rfl
          have HE : Hid (litL (s.data.toList.take (k + 1)) = litL (s.data.toList.take k) ++ [92] ++ [s[k]]) := Lib.hid (lit_next hlt (by rw [h42]; decide))
          clear h42
          go_wp2_with (first | (at_builtin; refine wpList_append_own _ rfl _ _ 47 rfl w1.heap.size 5 i0 (.int .u8 0) 1 1 Tryd.underlying47 hi hz0 hz1 hz2 rfl (by decide) _ _ _ rfl (HO.out.alloc _) ⟨wr.heap.size, 0, none⟩ 1 1 [.int .u8 92] rfl rfl (RP.one_new _ _ _) (fun x hx => by simp at hx; subst hx; rfl) (by unfold maxLen; omega) (by omega) (by simp; omega) ?_; intro v3 w3 hown3 hgrow3 hnil3; have HO3 := Lib.hid hown3; have HB3 := Lib.hid ((HB.out.alloc hbs (.cells #[.int .u8 92] 5)).grown hgrow3 (by simp; omega) (fun j hj => (HO.out.lt j hj).1)); have hbs3 := HB3.out.size; clear hown3 hgrow3 hnil3) | (at_builtin; refine wpList_append_own _ rfl _ _ 47 rfl w1.heap.size 5 i0 (.int .u8 0) 1 1 Tryd.underlying47 hi hz0 hz1 hz2 rfl (by decide) _ _ _ rfl (HO3.out.alloc _) ⟨w3.heap.size, 0, none⟩ 1 1 [.int .u8 ((s[k]).toNat : Nat)] rfl rfl (RP.one_new _ _ _) (fun x hx => by simp at hx; subst hx; rfl) (by unfold maxLen; omega) (by omega) (by simp; omega) ?_; intro v4 w4 hown4 hgrow4 hnil4))
          have HO4 : Hid (w4.ownsRow w1.heap.size 5 1 v4 (litL (s.data.toList.take (k + 1))).length (Lib.byteCells (litL (s.data.toList.take (k + 1))))) := Lib.hid (by
            rw [HE.out, cells_app, cells_app, List.length_append, List.length_append]
            exact hown4)
          have HB4 := Lib.hid ((HB3.out.alloc hbs3 (.cells #[.int .u8 ((s[k]).toNat : Nat)] 5)).grown hgrow4 (by simp; omega) (fun j hj => (HO3.out.lt j hj).1))
          clear hown4 hgrow4 hnil4
          go_wp2
          go_roundw
          case rel => exact ⟨k + 1, by omega, by go_num, HO4.out, HB4.out⟩
          case measure => simp [Go.RowKit.intOf]; omega
        by_cases h63 : s[k] = 63
        · have e42 : ((((s[k]).toNat : Nat) : Int) == 42) = false := GR.byte_no h42
          have e63 : ((((s[k]).toNat : Nat) : Int) == 63) = true := by rw [h63]; rfl
          have HE : Hid (litL (s.data.toList.take (k + 1)) = litL (s.data.toList.take k) ++ [92] ++ [s[k]]) := Lib.hid (lit_next hlt (by rw [h63]; decide))
          clear h42 h63
          go_wp2_with (first | (at_builtin; refine wpList_append_own _ rfl _ _ 47 rfl w1.heap.size 5 i0 (.int .u8 0) 1 1 Tryd.underlying47 hi hz0 hz1 hz2 rfl (by decide) _ _ _ rfl (HO.out.alloc _) ⟨wr.heap.size, 0, none⟩ 1 1 [.int .u8 92] rfl rfl (RP.one_new _ _ _) (fun x hx => by simp at hx; subst hx; rfl) (by unfold maxLen; omega) (by omega) (by simp; omega) ?_; intro v3 w3 hown3 hgrow3 hnil3; have HO3 := Lib.hid hown3; have HB3 := Lib.hid ((HB.out.alloc hbs (.cells #[.int .u8 92] 5)).grown hgrow3 (by simp; omega) (fun j hj => (HO.out.lt j hj).1)); have hbs3 := HB3.out.size; clear hown3 hgrow3 hnil3) | (at_builtin; refine wpList_append_own _ rfl _ _ 47 rfl w1.heap.size 5 i0 (.int .u8 0) 1 1 Tryd.underlying47 hi hz0 hz1 hz2 rfl (by decide) _ _ _ rfl (HO3.out.alloc _) ⟨w3.heap.size, 0, none⟩ 1 1 [.int .u8 ((s[k]).toNat : Nat)] rfl rfl (RP.one_new _ _ _) (fun x hx => by simp at hx; subst hx; rfl) (by unfold maxLen; omega) (by omega) (by simp; omega) ?_; intro v4 w4 hown4 hgrow4 hnil4))
          have HO4 : Hid (w4.ownsRow w1.heap.size 5 1 v4 (litL (s.data.toList.take (k + 1))).length (Lib.byteCells (litL (s.data.toList.take (k + 1))))) := Lib.hid (by
            rw [HE.out, cells_app, cells_app, List.length_append, List.length_append]
            exact hown4)
          have HB4 := Lib.hid ((HB3.out.alloc hbs3 (.cells #[.int .u8 ((s[k]).toNat : Nat)] 5)).grown hgrow4 (by simp; omega) (fun j hj => (HO3.out.lt j hj).1))
          clear hown4 hgrow4 hnil4
          go_wp2
          go_roundw
          case rel => exact ⟨k + 1, by omega, by go_num, HO4.out, HB4.out⟩
          case measure => simp [Go.RowKit.intOf]; omega
        by_cases h91 : s[k] = 91
        · have e42 : ((((s[k]).toNat : Nat) : Int) == 42) = false := GR.byte_no h42
          have e63 : ((((s[k]).toNat : Nat) : Int) == 63) = false := GR.byte_no h63
          have e91 : ((((s[k]).toNat : Nat) : Int) == 91) = true := by rw [h91]; rfl
          have HE : Hid (litL (s.data.toList.take (k + 1)) = litL (s.data.toList.take k) ++ [92] ++ [s[k]]) := Lib.hid (lit_next hlt (by rw [h91]; decide))
          clear h42 h63 h91
          go_wp2_with (first | (at_builtin; refine wpList_append_own _ rfl _ _ 47 rfl w1.heap.size 5 i0 (.int .u8 0) 1 1 Tryd.underlying47 hi hz0 hz1 hz2 rfl (by decide) _ _ _ rfl (HO.out.alloc _) ⟨wr.heap.size, 0, none⟩ 1 1 [.int .u8 92] rfl rfl (RP.one_new _ _ _) (fun x hx => by simp at hx; subst hx; rfl) (by unfold maxLen; omega) (by omega) (by simp; omega) ?_; intro v3 w3 hown3 hgrow3 hnil3; have HO3 := Lib.hid hown3; have HB3 := Lib.hid ((HB.out.alloc hbs (.cells #[.int .u8 92] 5)).grown hgrow3 (by simp; omega) (fun j hj => (HO.out.lt j hj).1)); have hbs3 := HB3.out.size; clear hown3 hgrow3 hnil3) | (at_builtin; refine wpList_append_own _ rfl _ _ 47 rfl w1.heap.size 5 i0 (.int .u8 0) 1 1 Tryd.underlying47 hi hz0 hz1 hz2 rfl (by decide) _ _ _ rfl (HO3.out.alloc _) ⟨w3.heap.size, 0, none⟩ 1 1 [.int .u8 ((s[k]).toNat : Nat)] rfl rfl (RP.one_new _ _ _) (fun x hx => by simp at hx; subst hx; rfl) (by unfold maxLen; omega) (by omega) (by simp; omega) ?_; intro v4 w4 hown4 hgrow4 hnil4))
          have HO4 : Hid (w4.ownsRow w1.heap.size 5 1 v4 (litL (s.data.toList.take (k + 1))).length (Lib.byteCells (litL (s.data.toList.take (k + 1))))) := Lib.hid (by
            rw [HE.out, cells_app, cells_app, List.length_append, List.length_append]
            exact hown4)
          have HB4 := Lib.hid ((HB3.out.alloc hbs3 (.cells #[.int .u8 ((s[k]).toNat : Nat)] 5)).grown hgrow4 (by simp; omega) (fun j hj => (HO3.out.lt j hj).1))
          clear hown4 hgrow4 hnil4
          go_wp2
          go_roundw
          case rel => exact ⟨k + 1, by omega, by go_num, HO4.out, HB4.out⟩
          case measure => simp [Go.RowKit.intOf]; omega
        by_cases h92 : s[k] = 92
        · have e42 : ((((s[k]).toNat : Nat) : Int) == 42) = false := GR.byte_no h42
          have e63 : ((((s[k]).toNat : Nat) : Int) == 63) = false := GR.byte_no h63
          have e91 : ((((s[k]).toNat : Nat) : Int) == 91) = false := GR.byte_no h91
          have e92 : ((((s[k]).toNat : Nat) : Int) == 92) = true := by rw [h92]; rfl
          have HE : Hid (litL (s.data.toList.take (k + 1)) = litL (s.data.toList.take k) ++ [92] ++ [s[k]]) := Lib.hid (lit_next hlt (by rw [h92]; decide))
          clear h42 h63 h91 h92
          go_wp2_with (first | (at_builtin; refine wpList_append_own _ rfl _ _ 47 rfl w1.heap.size 5 i0 (.int .u8 0) 1 1 Tryd.underlying47 hi hz0 hz1 hz2 rfl (by decide) _ _ _ rfl (HO.out.alloc _) ⟨wr.heap.size, 0, none⟩ 1 1 [.int .u8 92] rfl rfl (RP.one_new _ _ _) (fun x hx => by simp at hx; subst hx; rfl) (by unfold maxLen; omega) (by omega) (by simp; omega) ?_; intro v3 w3 hown3 hgrow3 hnil3; have HO3 := Lib.hid hown3; have HB3 := Lib.hid ((HB.out.alloc hbs (.cells #[.int .u8 92] 5)).grown hgrow3 (by simp; omega) (fun j hj => (HO.out.lt j hj).1)); have hbs3 := HB3.out.size; clear hown3 hgrow3 hnil3) | (at_builtin; refine wpList_append_own _ rfl _ _ 47 rfl w1.heap.size 5 i0 (.int .u8 0) 1 1 Tryd.underlying47 hi hz0 hz1 hz2 rfl (by decide) _ _ _ rfl (HO3.out.alloc _) ⟨w3.heap.size, 0, none⟩ 1 1 [.int .u8 ((s[k]).toNat : Nat)] rfl rfl (RP.one_new _ _ _) (fun x hx => by simp at hx; subst hx; rfl) (by unfold maxLen; omega) (by omega) (by simp; omega) ?_; intro v4 w4 hown4 hgrow4 hnil4))
          have HO4 : Hid (w4.ownsRow w1.heap.size 5 1 v4 (litL (s.data.toList.take (k + 1))).length (Lib.byteCells (litL (s.data.toList.take (k + 1))))) := Lib.hid (by
            rw [HE.out, cells_app, cells_app, List.length_append, List.length_append]
            exact hown4)
          have HB4 := Lib.hid ((HB3.out.alloc hbs3 (.cells #[.int .u8 ((s[k]).toNat : Nat)] 5)).grown hgrow4 (by simp; omega) (fun j hj => (HO3.out.lt j hj).1))
          clear hown4 hgrow4 hnil4
          go_wp2
          go_roundw
          case rel => exact ⟨k + 1, by omega, by go_num, HO4.out, HB4.out⟩
          case measure => simp [Go.RowKit.intOf]; omega
        have e42 : ((((s[k]).toNat : Nat) : Int) == 42) = false := GR.byte_no h42
        have e63 : ((((s[k]).toNat : Nat) : Int) == 63) = false := GR.byte_no h63
        have e91 : ((((s[k]).toNat : Nat) : Int) == 91) = false := GR.byte_no h91
        have e92 : ((((s[k]).toNat : Nat) : Int) == 92) = false := GR.byte_no h92
        have HE : Hid (litL (s.data.toList.take (k + 1)) = litL (s.data.toList.take k) ++ [s[k]]) := Lib.hid (lit_plain hlt (by unfold spB; simp only [decide_eq_false_iff_not, not_or]; exact ⟨h42, h63, h91, h92⟩))
        clear h42 h63 h91 h92
        go_wp2_with (first | (at_builtin; refine wpList_append_own _ rfl _ _ 47 rfl w1.heap.size 5 i0 (.int .u8 0) 1 1 Tryd.underlying47 hi hz0 hz1 hz2 rfl (by decide) _ _ _ rfl (HO.out.alloc _) ⟨wr.heap.size, 0, none⟩ 1 1 [.int .u8 ((s[k]).toNat : Nat)] rfl rfl (RP.one_new _ _ _) (fun x hx => by simp at hx; subst hx; rfl) (by unfold maxLen; omega) (by omega) (by simp; omega) ?_; intro v4 w4 hown4 hgrow4 hnil4))
        have HO4 : Hid (w4.ownsRow w1.heap.size 5 1 v4 (litL (s.data.toList.take (k + 1))).length (Lib.byteCells (litL (s.data.toList.take (k + 1))))) := Lib.hid (by
          rw [HE.out, cells_app, List.length_append]
          exact hown4)
        have HB4 := Lib.hid ((HB.out.alloc hbs (.cells #[.int .u8 ((s[k]).toNat : Nat)] 5)).grown hgrow4 (by simp; omega) (fun j hj => (HO.out.lt j hj).1))
        clear hown4 hgrow4 hnil4
        go_wp2
        go_roundw
        case rel => exact ⟨k + 1, by omega, by go_num, HO4.out, HB4.out⟩
        case measure => simp [Go.RowKit.intOf]; omega
      · have hz : ¬ (k : Int) < s.size := by omega
        have ht : s.data.toList.take k = s.data.toList := List.take_of_length_le (by rw [← Lib.size_eq]; omega)
        rw [ht] at HO
        clear ht
        rcases HO.out.2 with ⟨_, h0⟩ | ⟨g, cap, cur, hv, _⟩
        · exact absurd (List.eq_nil_of_length_eq_zero h0) hlL.out
        · subst hv
          have hcell : ∀ i, i < (litL s.data.toList).length → wr.cell? ⟨g, 0 + i, none⟩ = some (.int .u8 (((litL s.data.toList).map fun b => ((b.toNat : Nat) : Int)).getD i 0)) := by
            intro i hi2
            have h := HO.out.cellAt i (by omega)
            rw [Nat.zero_add, h]
            simp [Lib.byteCells, List.getD_eq_getElem?_getD, List.getElem?_eq_getElem hi2]
          have hcv := run_convert_bytes_arg (P := Tryd.prog) wr 47 5 Tryd.underlying47 Tryd.underlying5 g 0 (litL s.data.toList).length cap _ (by simp) hcell 9 Tryd.underlying9
          have Hs : Hid ((strOfNums ((litL s.data.toList).map fun b => ((b.toNat : Nat) : Int))).data.toList = litL s.data.toList) := Lib.hid (by rw [strOfNums_data, List.map_map]; exact (List.map_congr_left (fun b _ => by simp)).trans (List.map_id _))
          generalize strOfNums ((litL s.data.toList).map fun b => ((b.toNat : Nat) : Int)) = t at hcv Hs
          clear hcell
          go_wp2_with fail
          go_ret
          exact ⟨t, rfl, by rw [HA.out, Hs.out], Hb1.out.trans (HB.out.mono Hb1.out.size)⟩
end RG
end Go.Proofs.YtdnncacplnfllaaDoor
