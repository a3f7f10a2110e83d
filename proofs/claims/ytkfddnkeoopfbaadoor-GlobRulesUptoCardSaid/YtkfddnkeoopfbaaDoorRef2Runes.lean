/- The document's answer: a text's runes. -/
import Derived.Test.YtkfddnkeoopfbaaDoorRefParts
import Derived.Test.YtkfddnkeoopfbaaDoorGlobRead
import Derived.Test.YtkfddnkeoopfbaaDoorRef2Cls
import Derived.Test.YtkfddnkeoopfbaaDoorGlobFrom
import Derived.Test.YtkfddnkeoopfbaaDoorRef2Eq1
namespace Go.Proofs.YtkfddnkeoopfbaaDoor
open Go.RowKit Go.Lib
namespace RG
def conB (b : UInt8) : Bool := decide (128 ≤ b.toNat) && decide (b.toNat ≤ 191)
def rnGo : Nat → List UInt8 → List (List UInt8)
  | 0, _ => []
  | _ + 1, [] => []
  | n + 1, x :: r => (x :: r.takeWhile conB) :: rnGo n (r.dropWhile conB)
theorem dropWhile_len (p : UInt8 → Bool) (r : List UInt8) : (r.dropWhile p).length ≤ r.length := (List.dropWhile_suffix p).length_le
theorem rnGo_fuel : ∀ (n m : Nat) (l : List UInt8), l.length ≤ n → l.length ≤ m → rnGo n l = rnGo m l
  | 0, m, l, h, _ => by
    have : l = [] := List.eq_nil_of_length_eq_zero (by omega)
    subst this
    cases m <;> rfl
  | n + 1, 0, l, _, h => by
    have : l = [] := List.eq_nil_of_length_eq_zero (by omega)
    subst this
    rfl
  | n + 1, m + 1, l, hn, hm => by
    cases l with
    | nil => rfl
    | cons x r =>
      rw [List.length_cons] at hn hm
      have := dropWhile_len conB r
      rw [rnGo, rnGo, rnGo_fuel n m _ (by omega) (by omega)]
def rnL (l : List UInt8) : List (List UInt8) := rnGo l.length l
theorem rnL_cons (x : UInt8) (r : List UInt8) : rnL (x :: r) = (x :: r.takeWhile conB) :: rnL (r.dropWhile conB) := by
  have := dropWhile_len conB r
  unfold rnL
  rw [List.length_cons, rnGo, rnGo_fuel r.length _ _ (by omega) (Nat.le_refl _)]
def StrsAt (w : World) (ao : Option Addr) (xs : List ByteArray) : Prop := 0 < xs.length → ∃ g o, ao = some ⟨g, o, none⟩ ∧ GH.NamesAt w g o xs
def RunesPost (s : ByteArray) (w : World) (e : Ending) (w' : World) : Prop := ∃ (ao : Option Addr) (c : Nat) (xs : List ByteArray), e = .returned (.slice ao xs.length c) ∧ xs.length ≤ c ∧ (ao = none → xs = [] ∧ c = 0) ∧ c ≤ maxLen ∧
  xs.map (·.data.toList) = rnL s.data.toList ∧ (∀ x ∈ xs, x.size ≤ s.size) ∧ StrsAt w' ao xs ∧ Below w.heap.size w w'
structure Cut (s : ByteArray) (k n : Nat) : Prop where
  le : k + n ≤ s.size
  lo : 1 ≤ n
  tw : (s.data.toList.drop (k + 1)).takeWhile conB = (s.data.toList.drop (k + 1)).take (n - 1) ++ (s.data.toList.drop (k + n)).takeWhile conB
  dw : (s.data.toList.drop (k + 1)).dropWhile conB = (s.data.toList.drop (k + n)).dropWhile conB
theorem Cut.start {s : ByteArray} {k : Nat} (h : k < s.size) : Cut s k 1 := ⟨by omega, Nat.le_refl _, by simp, rfl⟩
theorem Cut.more {s : ByteArray} {k n : Nat} (h : Cut s k n) (hl : k + n < s.size) (hc : conB s[k + n] = true) : Cut s k (n + 1) := by
  have h1 := h.lo
  have hd := drop_at s (k + n) hl
  refine ⟨by omega, by omega, ?_, ?_⟩
  · rw [h.tw, hd, List.takeWhile_cons, hc]
    have e : (s.data.toList.drop (k + 1)).take (n + 1 - 1) = (s.data.toList.drop (k + 1)).take (n - 1) ++ [s[k + n]] := by
      obtain ⟨m, rfl⟩ : ∃ m, n = m + 1 := ⟨n - 1, by omega⟩
      rw [Nat.add_sub_cancel, Nat.add_sub_cancel, List.take_add_one, List.getElem?_drop]
      have e2 : k + 1 + m = k + (m + 1) := by omega
      rw [e2, Lib.data_getElem? s (k + (m + 1)) hl]
      rfl
    rw [e, List.append_assoc]
    rfl
  · rw [h.dw, hd, List.dropWhile_cons, hc]
    rfl
theorem Cut.stop {s : ByteArray} {k n : Nat} (h : Cut s k n) (he : s.size ≤ k + n ∨ ∃ hl : k + n < s.size, conB s[k + n] = false) : rnL (s.data.toList.drop k) = (s.extract k (k + n)).data.toList :: rnL (s.data.toList.drop (k + n)) := by
  have h1 := h.lo
  have h2 := h.le
  have hk : k < s.size := by omega
  have ht : (s.data.toList.drop (k + n)).takeWhile conB = [] ∧ (s.data.toList.drop (k + n)).dropWhile conB = s.data.toList.drop (k + n) := by
    rcases he with he | ⟨hl, hc⟩
    · rw [drop_end s (k + n) he]
      exact ⟨rfl, rfl⟩
    · rw [drop_at s (k + n) hl, List.takeWhile_cons, List.dropWhile_cons, hc]
      exact ⟨rfl, rfl⟩
  rw [drop_at s k hk, rnL_cons, h.tw, h.dw, ht.1, ht.2, List.append_nil, RP.piece_data, Nat.add_sub_cancel_left, drop_at s k hk]
  obtain ⟨m, rfl⟩ : ∃ m, n = m + 1 := ⟨n - 1, by omega⟩
  rfl
theorem row_view {B : Nat} {wr : World} {v : Value} {done : List ByteArray} (ho : wr.ownsRow B 9 1 v done.length (done.map Value.string)) :
    ∃ (ao : Option Addr) (c : Nat), v = .slice ao done.length c ∧ done.length ≤ c ∧ (ao = none → done = [] ∧ c = 0) ∧ c ≤ maxLen ∧ StrsAt wr ao done := by
  rcases ho.2 with ⟨hv, h0⟩ | ⟨g, cap, cur, hv, hb, hg, hle, hcap, _⟩
  · have : done = [] := List.eq_nil_of_length_eq_zero h0
    subst this
    exact ⟨none, 0, hv, Nat.le_refl _, fun _ => ⟨rfl, rfl⟩, Nat.zero_le _, fun h => by simp at h⟩
  · subst hv
    refine ⟨_, cap, rfl, hle, (fun h => by cases h), hcap, fun _ => ⟨g, 0, rfl, (Array.getElem?_eq_some_iff.1 hg).1, fun j x hx => ?_⟩⟩
    have hj : j < done.length := (List.getElem?_eq_some_iff.1 hx).1
    rw [Nat.zero_add, ho.cellAt j (by omega), List.getElem?_map, hx]
    rfl
set_option maxRecDepth 100000 in
set_option maxHeartbeats 1600000 in
theorem runes_any (s : ByteArray) (w : World) (hs : s.size ≤ 1048576) :
    Calls Tryd.prog 19 #[.string s] w (RunesPost s w) := by
  obtain ⟨i0, hi, hz0, hz1, hz2⟩ := info_parts RP.infoS
  go_enter Tryd.func19, Tryd.ntmps19
  go_wp2_with fail
  go_loopw [3, 4] (fun s3 s4 wr => ∃ (k : Nat) (done : List ByteArray), k ≤ s.size ∧ s4 = .int .i64 k ∧ wr.ownsRow w.heap.size 9 1 s3 done.length (done.map Value.string) ∧ Below w.heap.size w wr ∧ done.length ≤ k ∧ done.map (·.data.toList) ++ rnL (s.data.toList.drop k) = rnL s.data.toList ∧ (∀ x ∈ done, x.size ≤ s.size)) (fun _ s4 _ => s.size - (Go.RowKit.intOf s4).toNat)
  case atStart => exact ⟨0, [], Nat.zero_le _, rfl, World.ownsRow_nil _ _ _ _, Below.refl _ _, Nat.le_refl _, rfl, by simp⟩
  case round =>
    obtain ⟨k, done, hk, rfl, hown, hb, hdl, heq, hsz⟩ := hrel
    have HO := Lib.hid hown
    have HB := Lib.hid hb
    have HS := Lib.hid hsz
    have HE := Lib.hid heq
    have hbs : w.heap.size ≤ wr.heap.size := hb.size
    clear hown hb hsz heq
    by_cases hlt : k < s.size
    · have hz : (k : Int) < s.size := by omega
      have hst := Cut.start hlt
      have HST := Lib.hid hst
      clear hst
      go_wp2_with fail
      go_loop [5] (fun s5 => ∃ n : Nat, s5 = .int .i64 n ∧ Cut s k n) (fun s5 => s.size - (Go.RowKit.intOf s5).toNat)
      case atStart => exact ⟨1, rfl, HST.out⟩
      case round =>
        obtain ⟨n, rfl, hc⟩ := hrel
        have HC := Lib.hid hc
        have hle := hc.le
        have hlo := hc.lo
        clear hc
        by_cases hl : k + n < s.size
        · have hlz : ((k : Int) + n) < s.size := by omega
          by_cases c1 : 128 ≤ (s[k + n]).toNat
          · have f1 : (128 : Int) ≤ ((s[k + n]).toNat : Nat) := by omega
            by_cases c2 : (s[k + n]).toNat ≤ 191
            · have f2 : (((s[k + n]).toNat : Nat) : Int) ≤ 191 := by omega
              have HM := Lib.hid (HC.out.more hl (by unfold conB; simp [c1, c2]))
              clear c1 c2
              go_wp2_with fail
              go_round
              case rel => exact ⟨n + 1, by go_num, HM.out⟩
              case measure => simp [Go.RowKit.intOf]; omega
            · have f2 : ¬ (((s[k + n]).toNat : Nat) : Int) ≤ 191 := by omega
              have hex : s.size ≤ k + n ∨ ∃ hl : k + n < s.size, conB s[k + n] = false := .inr ⟨hl, by unfold conB; simp [c2]⟩
              clear c1 c2
              have HN : Hid ((done ++ [s.extract k (k + n)]).map (·.data.toList) ++ rnL (s.data.toList.drop (k + n)) = rnL s.data.toList) := Lib.hid (by
                rw [← HE.out, HC.out.stop hex, List.map_append, List.append_assoc]
                rfl)
              have hall : ∀ x ∈ done ++ [s.extract k (k + n)], x.size ≤ s.size := by
                intro x hx
                rcases List.mem_append.1 hx with hx | hx
                · exact HS.out x hx
                · simp only [List.mem_singleton] at hx
                  subst hx
                  rw [ByteArray.size_extract]; omega
              have Hall := Lib.hid hall
              have g1 : (k : Int) ≤ (k : Int) + n := by omega
              have g2 : (k : Int) + n ≤ s.size := by omega
              clear hall hex
              go_wp2_with (first | (at_builtin; refine wpList_append_own _ rfl _ _ 36 rfl w.heap.size 9 i0 (.string ByteArray.empty) 1 16 Tryd.underlying36 hi hz0 hz1 hz2 rfl (by decide) _ _ _ rfl (HO.out.alloc _) ⟨wr.heap.size, 0, none⟩ 1 1 [.string (s.extract k (k + n))] rfl rfl (RP.one_new _ _ _) (fun x hx => by simp at hx; subst hx; rfl) (by unfold maxLen; omega) (by omega) (by simp; omega) ?_; intro v' w3 hown' hgrow3 hnil3))
              have hown2 : w3.ownsRow w.heap.size 9 1 v' (done ++ [s.extract k (k + n)]).length ((done ++ [s.extract k (k + n)]).map Value.string) := by
                rw [List.length_append, List.map_append]; exact hown'
              have HO2 := Lib.hid hown2
              have HB2 := Lib.hid ((HB.out.alloc hbs (.cells #[.string (s.extract k (k + n))] 9)).grown hgrow3 (by simp; omega) (fun j hj => (HO.out.lt j hj).1))
              clear hown' hgrow3 hnil3 hown2
              go_wp2
              go_roundw
              case rel => exact ⟨k + n, done ++ [s.extract k (k + n)], by omega, by go_num, HO2.out, HB2.out, by simp; omega, HN.out, Hall.out⟩
              case measure => simp [Go.RowKit.intOf]; omega
          · have f1 : ¬ (128 : Int) ≤ ((s[k + n]).toNat : Nat) := by omega
            have hex : s.size ≤ k + n ∨ ∃ hl : k + n < s.size, conB s[k + n] = false := .inr ⟨hl, by unfold conB; simp [c1]⟩
            clear c1
            have HN : Hid ((done ++ [s.extract k (k + n)]).map (·.data.toList) ++ rnL (s.data.toList.drop (k + n)) = rnL s.data.toList) := Lib.hid (by
              rw [← HE.out, HC.out.stop hex, List.map_append, List.append_assoc]
              rfl)
            have hall : ∀ x ∈ done ++ [s.extract k (k + n)], x.size ≤ s.size := by
              intro x hx
              rcases List.mem_append.1 hx with hx | hx
              · exact HS.out x hx
              · simp only [List.mem_singleton] at hx
                subst hx
                rw [ByteArray.size_extract]; omega
            have Hall := Lib.hid hall
            have g1 : (k : Int) ≤ (k : Int) + n := by omega
            have g2 : (k : Int) + n ≤ s.size := by omega
            clear hall hex
            go_wp2_with (first | (at_builtin; refine wpList_append_own _ rfl _ _ 36 rfl w.heap.size 9 i0 (.string ByteArray.empty) 1 16 Tryd.underlying36 hi hz0 hz1 hz2 rfl (by decide) _ _ _ rfl (HO.out.alloc _) ⟨wr.heap.size, 0, none⟩ 1 1 [.string (s.extract k (k + n))] rfl rfl (RP.one_new _ _ _) (fun x hx => by simp at hx; subst hx; rfl) (by unfold maxLen; omega) (by omega) (by simp; omega) ?_; intro v' w3 hown' hgrow3 hnil3))
            have hown2 : w3.ownsRow w.heap.size 9 1 v' (done ++ [s.extract k (k + n)]).length ((done ++ [s.extract k (k + n)]).map Value.string) := by
              rw [List.length_append, List.map_append]; exact hown'
            have HO2 := Lib.hid hown2
            have HB2 := Lib.hid ((HB.out.alloc hbs (.cells #[.string (s.extract k (k + n))] 9)).grown hgrow3 (by simp; omega) (fun j hj => (HO.out.lt j hj).1))
            clear hown' hgrow3 hnil3 hown2
            go_wp2
            go_roundw
            case rel => exact ⟨k + n, done ++ [s.extract k (k + n)], by omega, by go_num, HO2.out, HB2.out, by simp; omega, HN.out, Hall.out⟩
            case measure => simp [Go.RowKit.intOf]; omega
        · have hlz : ¬ ((k : Int) + n) < s.size := by omega
          have hex : s.size ≤ k + n ∨ ∃ hl : k + n < s.size, conB s[k + n] = false := .inl (by omega)
          have HN : Hid ((done ++ [s.extract k (k + n)]).map (·.data.toList) ++ rnL (s.data.toList.drop (k + n)) = rnL s.data.toList) := Lib.hid (by
            rw [← HE.out, HC.out.stop hex, List.map_append, List.append_assoc]
            rfl)
          have hall : ∀ x ∈ done ++ [s.extract k (k + n)], x.size ≤ s.size := by
            intro x hx
            rcases List.mem_append.1 hx with hx | hx
            · exact HS.out x hx
            · simp only [List.mem_singleton] at hx
              subst hx
              rw [ByteArray.size_extract]; omega
          have Hall := Lib.hid hall
          have g1 : (k : Int) ≤ (k : Int) + n := by omega
          have g2 : (k : Int) + n ≤ s.size := by omega
          clear hall hex
          go_wp2_with (first | (at_builtin; refine wpList_append_own _ rfl _ _ 36 rfl w.heap.size 9 i0 (.string ByteArray.empty) 1 16 Tryd.underlying36 hi hz0 hz1 hz2 rfl (by decide) _ _ _ rfl (HO.out.alloc _) ⟨wr.heap.size, 0, none⟩ 1 1 [.string (s.extract k (k + n))] rfl rfl (RP.one_new _ _ _) (fun x hx => by simp at hx; subst hx; rfl) (by unfold maxLen; omega) (by omega) (by simp; omega) ?_; intro v' w3 hown' hgrow3 hnil3))
          have hown2 : w3.ownsRow w.heap.size 9 1 v' (done ++ [s.extract k (k + n)]).length ((done ++ [s.extract k (k + n)]).map Value.string) := by
            rw [List.length_append, List.map_append]; exact hown'
          have HO2 := Lib.hid hown2
          have HB2 := Lib.hid ((HB.out.alloc hbs (.cells #[.string (s.extract k (k + n))] 9)).grown hgrow3 (by simp; omega) (fun j hj => (HO.out.lt j hj).1))
          clear hown' hgrow3 hnil3 hown2
          go_wp2
          go_roundw
          case rel => exact ⟨k + n, done ++ [s.extract k (k + n)], by omega, by go_num, HO2.out, HB2.out, by simp; omega, HN.out, Hall.out⟩
          case measure => simp [Go.RowKit.intOf]; omega
    · have hz : ¬ (k : Int) < s.size := by omega
      have hd : rnL (s.data.toList.drop k) = [] := by rw [drop_end s k (by omega)]; rfl
      have HF : Hid (done.map (·.data.toList) = rnL s.data.toList) := Lib.hid (by rw [← HE.out, hd, List.append_nil])
      clear hd
      obtain ⟨ao, c, hv0, hv1, hv2, hv3, hv4⟩ := row_view HO.out
      subst hv0
      have HV := Lib.hid hv4
      have HV2 := Lib.hid hv2
      clear hv4 hv2
      go_wp2_with fail
      go_ret
      exact ⟨ao, c, done, rfl, hv1, HV2.out, hv3, HF.out, HS.out, HV.out, HB.out⟩
end RG
end Go.Proofs.YtkfddnkeoopfbaaDoor
namespace Go.Proofs.YtkfddnkeoopfbaaDoor
open Go.RowKit Go.Lib
namespace RG
open GP LitN RN
theorem encode_tail (r : Int) : ∀ b ∈ (Lib.encodeRune r).tail, conB b = true := by
  intro b hb
  unfold Lib.encodeRune Lib.encodeRuneZ at hb
  unfold conB
  split at hb
  · simp at hb
  · split at hb
    · simp at hb
      subst hb
      simp
      omega
    · split at hb
      · simp at hb
        rcases hb with rfl | rfl <;> (simp; omega)
      · split at hb
        · simp at hb
          rcases hb with rfl | rfl | rfl <;> (simp; omega)
        · simp at hb
          rcases hb with rfl | rfl <;> decide
theorem con_bad {y : UInt8} (t : List UInt8) (h : conB y = true) : badB (y :: t) = true := by
  unfold conB at h
  simp only [Bool.and_eq_true, decide_eq_true_eq] at h
  unfold badB
  rw [Lib.decodeL_N]
  have e0 : ((y :: t).getD 0 0).toNat = y.toNat := rfl
  rw [e0]
  unfold Lib.decodeN
  rw [if_neg (by omega), if_neg (by omega), if_neg (by omega), if_neg (by omega)]
  decide
theorem rn_valid : ∀ (n : Nat) (l : List UInt8), l.length ≤ n → Lib.validD l = true → rnL l = (runes l).map fun r => Lib.encodeRune ((r : Nat) : Int)
  | 0, l, h, _ => by
    have : l = [] := List.eq_nil_of_length_eq_zero (by omega)
    subst this
    rfl
  | n + 1, l, h, hv => by
    by_cases hne : l = []
    · subst hne; rfl
    · obtain ⟨hv2, hed, _, _⟩ := lit_rune l hne hv
      have hw := Lib.decodeL_width l
      have hl : 0 < l.length := List.length_pos_iff.2 hne
      have ih := rn_valid n _ (by rw [List.length_drop]; omega) hv2
      rw [runes_step hne, List.map_cons, hed]
      obtain ⟨x, r, rfl⟩ := List.exists_cons_of_ne_nil hne
      obtain ⟨c, hc, hcl, _⟩ := dec_cut x r
      obtain ⟨j, hj⟩ : ∃ j, (Lib.decodeL (x :: r)).2 = j + 1 := ⟨(Lib.decodeL (x :: r)).2 - 1, by omega⟩
      rw [hj] at hed hc hcl ih hv2 ⊢
      rw [List.drop_succ_cons] at hc ih hv2 ⊢
      rw [List.take_succ_cons] at hed ⊢
      have hct : r.take j = c := (congrArg (List.take j) hc).trans (List.take_left' (by omega))
      have hcc : ∀ b ∈ c, conB b = true := fun b hb => encode_tail _ b (by rw [hed, hct]; exact hb)
      have hhd : (r.drop j).takeWhile conB = [] ∧ (r.drop j).dropWhile conB = r.drop j := by
        cases hd : r.drop j with
        | nil => exact ⟨rfl, rfl⟩
        | cons y t =>
          rw [hd] at hv2
          have hy : conB y = false := by
            cases h2 : conB y
            · rfl
            · have h3 := (valid_good (by simp) hv2).1
              rw [con_bad t h2] at h3
              cases h3
          rw [List.takeWhile_cons, List.dropWhile_cons, hy]
          exact ⟨rfl, rfl⟩
      rw [rnL_cons]
      have hr : r = c ++ r.drop j := hc
      have ht : r.takeWhile conB = c := by
        rw [hr, List.takeWhile_append_of_pos hcc, hhd.1, List.append_nil]
      have hdw : r.dropWhile conB = r.drop j := by
        have h1 : (c ++ r.drop j).dropWhile conB = (r.drop j).dropWhile conB := List.dropWhile_append_of_pos hcc
        rw [← hr, hhd.2] at h1
        exact h1
      rw [ht, hdw, ih, hct]
end RG
end Go.Proofs.YtkfddnkeoopfbaaDoor
