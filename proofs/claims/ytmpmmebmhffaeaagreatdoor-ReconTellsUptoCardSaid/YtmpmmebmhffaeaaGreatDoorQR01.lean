/- The document's answer for layer 1, without the program's own functions: the contracts of the reference's Valid, Name, Parts, Path, Split, Parent, Base, Order and Within, for texts of up to 1048576 bytes. (Made out of the texts of layer 1.) -/
import Derived.Test.YtmpmmebmhffaeaaGreatDoorQRefRune
import Derived.Test.YtmpmmebmhffaeaaGreatDoorQBase
import Derived.Lib.ValidLaws
import Derived.Lib.TrimUEq
import Derived.OwnWalk
import Derived.Laws.AppendOwn
import Derived.Laws.OwnMore
import Derived.Laws.BytesArg
import Derived.Deep.QuietTactic
set_option linter.all false
set_option maxRecDepth 100000
set_option maxHeartbeats 25600000
namespace Go.Proofs.YtmpmmebmhffaeaaGreatDoor.R1
open Go.RowKit Go.Lib
namespace NF

def Bad (s : ByteArray) : Prop := s.toList = [] ∨ 64 < s.size ∨ s.toList = [46] ∨ s.toList = [46, 46]
theorem bad_name {s : ByteArray} (h : Bad s) : NP.nameL s.data.toList = false := by
  unfold Bad at h
  rw [Lib.toList_data, Lib.size_eq] at h
  unfold NP.nameL
  rcases h with h | h | h | h
  · rw [h]; rfl
  · rw [decide_eq_false (p := s.data.toList.length ≤ 64) (by omega)]; simp
  · rw [h]; rfl
  · rw [h]; rfl
theorem good_name {s : ByteArray} (h1 : s.toList.isEmpty = false) (h2 : (s.size : Int) ≤ 64) (h3 : (s.toList == [46]) = false) (h4 : (s.toList == [46, 46]) = false) :
    NP.nameL s.data.toList = (Lib.validD s.data.toList && NP.noneOf s.data.toList) := by
  rw [Lib.toList_data] at h1 h3 h4
  rw [Lib.size_eq] at h2
  unfold NP.nameL
  have e1 : s.data.toList ≠ [] := by intro e; rw [e] at h1; simp at h1
  have e2 : s.data.toList.length ≤ 64 := by omega
  have e3 : s.data.toList ≠ [46] := by intro e; rw [e] at h3; simp at h3
  have e4 : s.data.toList ≠ [46, 46] := by intro e; rw [e] at h4; simp at h4
  rw [decide_eq_true e1, decide_eq_true e2, decide_eq_true e3, decide_eq_true e4]
  simp
theorem all_snoc {xs : List ByteArray} {k : Nat} {x : ByteArray} (h : NP.allL ((xs.take k).map (·.data.toList)) = true) (hx : xs[k]? = some x) (hn : NP.nameL x.data.toList = true) :
    NP.allL ((xs.take (k + 1)).map (·.data.toList)) = true := by
  rw [List.take_add_one, hx]
  unfold NP.allL at h ⊢
  simp only [Option.toList_some, List.map_append, List.map_cons, List.map_nil, List.all_append, List.all_cons, List.all_nil, h, hn, Bool.and_self]
theorem all_miss {xs : List ByteArray} {k : Nat} {x : ByteArray} (hx : xs[k]? = some x) (hn : NP.nameL x.data.toList = false) : NP.allL (xs.map (·.data.toList)) = false := by
  unfold NP.allL
  rw [List.all_eq_false]
  exact ⟨x.data.toList, List.mem_map.2 ⟨x, List.mem_of_getElem? hx, rfl⟩, by rw [hn]; simp⟩
def slash : ByteArray := ⟨#[47]⟩
/-- The texts lie in block bk, one behind the other, from its head on. -/
structure Lies (bk : Nat) (xs : List ByteArray) (w : World) : Prop where
  cells : ∀ (j : Nat) x, xs[j]? = some x → w.cell? ⟨bk, 0 + j, none⟩ = some (.string x)
  block : bk < w.heap.size
theorem path_parts {s : ByteArray} (h1 : s.size ≤ 400) (h2 : s.data.toList.count 47 < 16) : NP.pathL s.data.toList = NP.allL (Lib.split s.data.toList [47]) := by
  rw [Lib.size_eq] at h1
  unfold NP.pathL
  rw [decide_eq_true h1, decide_eq_true h2]
  simp
theorem path_long {s : ByteArray} (h1 : 400 < s.size) : NP.pathL s.data.toList = false := by
  rw [Lib.size_eq] at h1
  unfold NP.pathL
  rw [decide_eq_false (by omega)]
  simp
theorem path_deep {s : ByteArray} (h1 : 16 ≤ s.data.toList.count 47) : NP.pathL s.data.toList = false := by
  unfold NP.pathL
  rw [decide_eq_false (p := s.data.toList.count 47 < 16) (by omega)]
  simp
end NF
namespace NC
open NF

theorem path_short {l : List UInt8} (h : NP.pathL l = true) : l.length ≤ 400 := by
  unfold NP.pathL at h
  simp only [Bool.and_eq_true, decide_eq_true_eq] at h
  exact h.1.1
def TextPost (l : List UInt8) (w : World) (e : Ending) (w' : World) : Prop := ∃ t : ByteArray, e = .returned (.string t) ∧ t.data.toList = l ∧ Below w.heap.size w w'
theorem extract_to (s : ByteArray) (i : Nat) : (s.extract 0 i).data.toList = s.data.toList.take i := Lib.extract_from_zero s i
theorem extract_from (s : ByteArray) (i : Nat) : (s.extract i s.size).data.toList = s.data.toList.drop i := by
  rw [Lib.extract_data, List.take_of_length_le]
  rw [List.length_drop, Lib.size_eq]
  omega
end NC
namespace NO
def Drawn (w w' : World) : Prop := ∃ n, w' = w.drewN n
theorem Drawn.refl (w : World) : Drawn w w := ⟨0, rfl⟩
end NO
namespace NA
theorem below_drewN {B : Nat} {w w' : World} (h : Below B w w') (n : Nat) : Below B w (w'.drewN n) := ⟨h.os, h.tape, h.output, h.size, h.block⟩
end NA
namespace NB
theorem byte_ext {a b : ByteArray} (h : a.data.toList = b.data.toList) : a = b := by
  rw [← Lib.mk_data a, ← Lib.mk_data b, h]
end NB
namespace NI
theorem within_no {p q : List UInt8} (h : NP.pathL p = false) : NP.withinL p q = false := by unfold NP.withinL; rw [h]; rfl
end NI
namespace RN
open RR

set_option maxRecDepth 100000 in
theorem rune_any (s : ByteArray) (i : Nat) (w : World) (hi : i < s.size) (hs : s.size ≤ 4611686018427387904) :
    Calls Tryz.prog 110 #[.string s, .int .i64 i] w (Ret (Rune s i) w) := by
  unfold Rune runeN
  have l0 := (s.get! i).toNat_lt
  by_cases a0 : (s.get! i).toNat < 128
  · rw [if_pos a0]; exact one s i w hi a0
  · rw [if_neg a0]
    by_cases a1 : 194 ≤ (s.get! i).toNat ∧ (s.get! i).toNat ≤ 223
    · rw [if_pos a1]
      by_cases n1 : i + 2 ≤ s.size
      · by_cases c1 : cont (s.get! (i + 1)).toNat
        · rw [if_pos ⟨by omega, c1⟩]; exact two_ok s i w n1 hs a1.1 a1.2 c1
        · rw [if_neg (fun h => c1 h.2)]
          unfold cont at c1
          by_cases d : (s.get! (i + 1)).toNat < 128
          · exact two_bad1a s i w n1 hs a1.1 a1.2 d
          · exact two_bad1b s i w n1 hs a1.1 a1.2 (by omega)
      · rw [if_neg (fun h => n1 (by omega))]; exact short2 s i w hi hs (by omega) a1.1 a1.2
    · rw [if_neg a1]
      by_cases a2 : 224 ≤ (s.get! i).toNat ∧ (s.get! i).toNat ≤ 239
      · rw [if_pos a2]
        by_cases n1 : i + 3 ≤ s.size
        · by_cases c1 : cont (s.get! (i + 1)).toNat
          · by_cases c2 : cont (s.get! (i + 2)).toNat
            · generalize hv : (((s.get! i).toNat - 224) * 64 + (s.get! (i + 1)).toNat - 128) * 64 + (s.get! (i + 2)).toNat - 128 = v
              by_cases b1 : v < 2048
              · rw [if_neg (fun h => h.2.2.2 (.inl b1))]; exact three_low s i w n1 hs a2.1 a2.2 c1 c2 (by rw [hv]; exact b1)
              · by_cases b2 : 55296 ≤ v ∧ v ≤ 57343
                · rw [if_neg (fun h => h.2.2.2 (.inr b2))]; exact three_sur s i w n1 hs a2.1 a2.2 c1 c2 (by rw [hv]; exact b2)
                · rw [if_pos ⟨by omega, c1, c2, by omega⟩]
                  by_cases b3 : v < 55296
                  · exact three_oka s i w n1 hs a2.1 a2.2 c1 c2 (by rw [hv]; omega)
                  · exact three_okb s i w n1 hs a2.1 a2.2 c1 c2 (by rw [hv]; omega)
            · rw [if_neg (fun h => c2 h.2.2.1)]
              have c2' := c2
              unfold cont at c2'
              by_cases d : (s.get! (i + 2)).toNat < 128
              · exact three_bad2a s i w n1 hs a2.1 a2.2 c1 d
              · exact three_bad2b s i w n1 hs a2.1 a2.2 c1 (by omega)
          · rw [if_neg (fun h => c1 h.2.1)]
            unfold cont at c1
            by_cases d : (s.get! (i + 1)).toNat < 128
            · exact three_bad1a s i w n1 hs a2.1 a2.2 d
            · exact three_bad1b s i w n1 hs a2.1 a2.2 (by omega)
        · rw [if_neg (fun h => n1 (by omega))]; exact short3 s i w hi hs (by omega) a2.1 a2.2
      · rw [if_neg a2]
        by_cases a3 : 240 ≤ (s.get! i).toNat ∧ (s.get! i).toNat ≤ 244
        · rw [if_pos a3]
          by_cases n1 : i + 4 ≤ s.size
          · by_cases c1 : cont (s.get! (i + 1)).toNat
            · by_cases c2 : cont (s.get! (i + 2)).toNat
              · by_cases c3 : cont (s.get! (i + 3)).toNat
                · generalize hv : ((((s.get! i).toNat - 240) * 64 + (s.get! (i + 1)).toNat - 128) * 64 + (s.get! (i + 2)).toNat - 128) * 64 + (s.get! (i + 3)).toNat - 128 = v
                  by_cases b1 : v < 65536
                  · rw [if_neg (fun h => h.2.2.2.2 (.inl b1))]; exact four_low s i w n1 hs a3.1 a3.2 c1 c2 c3 (by rw [hv]; exact b1)
                  · by_cases b2 : 1114111 < v
                    · rw [if_neg (fun h => h.2.2.2.2 (.inr b2))]; exact four_high s i w n1 hs a3.1 a3.2 c1 c2 c3 (by rw [hv]; exact b2)
                    · rw [if_pos ⟨by omega, c1, c2, c3, by omega⟩]
                      exact four_ok s i w n1 hs a3.1 a3.2 c1 c2 c3 (by rw [hv]; omega)
                · rw [if_neg (fun h => c3 h.2.2.2.1)]
                  have c3' := c3
                  unfold cont at c3'
                  by_cases d : (s.get! (i + 3)).toNat < 128
                  · exact four_bad3a s i w n1 hs a3.1 a3.2 c1 c2 d
                  · exact four_bad3b s i w n1 hs a3.1 a3.2 c1 c2 (by omega)
              · rw [if_neg (fun h => c2 h.2.2.1)]
                have c2' := c2
                unfold cont at c2'
                by_cases d : (s.get! (i + 2)).toNat < 128
                · exact four_bad2a s i w n1 hs a3.1 a3.2 c1 d
                · exact four_bad2b s i w n1 hs a3.1 a3.2 c1 (by omega)
            · rw [if_neg (fun h => c1 h.2.1)]
              unfold cont at c1
              by_cases d : (s.get! (i + 1)).toNat < 128
              · exact four_bad1a s i w n1 hs a3.1 a3.2 d
              · exact four_bad1b s i w n1 hs a3.1 a3.2 (by omega)
          · rw [if_neg (fun h => n1 (by omega))]; exact short4 s i w hi hs (by omega) a3.1 a3.2
        · rw [if_neg a3]
          by_cases d : (s.get! i).toNat ≤ 193
          · exact bad0 s i w hi (by omega) d
          · exact bad1 s i w hi (by omega) (by omega)
/-- no rune: the decoder's own word -/
theorem rune_dec (s : ByteArray) (i : Nat) : Rune s i = if (Utf8.decode s i).1 = 65533 ∧ (Utf8.decode s i).2 = 1 then 0 else (Utf8.decode s i).2 := by
  unfold Rune
  rw [runeN_eq _ _ _ _ _ (s.get! i).toNat_lt (s.get! (i + 1)).toNat_lt (s.get! (i + 2)).toNat_lt (s.get! (i + 3)).toNat_lt, decode_at]
theorem decode_pos (s : ByteArray) (i : Nat) : 1 ≤ (Utf8.decode s i).2 := by
  rw [decode_at]
  unfold decodeN
  repeat' split
  all_goals simp
theorem rune_le (s : ByteArray) (i : Nat) (h : i < s.size) : i + Rune s i ≤ s.size := by
  unfold Rune runeN
  repeat' split
  all_goals omega
theorem valid_at (s : ByteArray) (i : Nat) (h : i < s.size) : Lib.validD (s.data.toList.drop i) = if Rune s i = 0 then false else Lib.validD (s.data.toList.drop (i + Rune s i)) := by
  have hne : s.data.toList.drop i ≠ [] := by
    intro e
    have := congrArg List.length e
    rw [List.length_drop, ← Lib.size_eq, List.length_nil] at this
    omega
  rw [Lib.validD_step _ hne, decodeL_drop, rune_dec]
  by_cases hd : (Utf8.decode s i).1 = 65533 ∧ (Utf8.decode s i).2 = 1
  · rw [if_pos hd, if_pos (by rw [if_pos hd])]
  · have hp := decode_pos s i
    rw [if_neg hd, if_neg hd, if_neg (by omega), List.drop_drop]
set_option maxHeartbeats 800000 in
theorem valid_ref (s : ByteArray) (w : World) (hs : s.size ≤ 4611686018427387904) :
    Calls Tryz.prog 96 #[.string s] w fun e w' => e = .returned (.bool (Lib.validD s.data.toList)) ∧ w = w' := by
  go_enter Tryz.func96, Tryz.ntmps96
  go_wp2
  go_loop [3] (fun i => ∃ k : Nat, k ≤ s.size ∧ i = .int .i64 k ∧ Lib.validD s.data.toList = Lib.validD (s.data.toList.drop k)) (fun i => s.size - (Go.RowKit.intOf i).toNat)
  case atStart => exact ⟨0, Nat.zero_le _, rfl, rfl⟩
  case round =>
    obtain ⟨k, hk, rfl, hv⟩ := hrel
    have HV := Lib.hid hv
    clear hv
    by_cases hlt : k < s.size
    · have hz : (k : Int) < s.size := by omega
      have hst := valid_at s k hlt
      have cR := rune_any s k w hlt hs
      have hle := rune_le s k hlt
      generalize hr : Rune s k = r at hst cR hle
      clear hr
      by_cases h0 : r = 0
      · subst h0
        rw [if_pos rfl] at hst
        have H := Lib.hid hst
        clear hst
        go_wp2_with (go_at_call 110; refine cR.mono ?_; rintro e w' ⟨rfl, rfl⟩)
        go_ret
        exact ⟨by rw [HV.out, H.out]; rfl, rfl⟩
      · rw [if_neg h0] at hst
        have H := Lib.hid hst
        clear hst
        have hb : ((r : Int) == 0) = false := beq_eq_false_iff_ne.2 (by omega)
        go_wp2_with (go_at_call 110; refine cR.mono ?_; rintro e w' ⟨rfl, rfl⟩)
        go_round
        case rel => exact ⟨k + r, by omega, by go_num, by rw [HV.out, H.out]⟩
        case measure => simp [Go.RowKit.intOf]; omega
    · have hz : ¬ (k : Int) < s.size := by omega
      go_wp2
      go_ret
      refine ⟨?_, rfl⟩
      rw [HV.out, List.drop_of_length_le (by rw [← Lib.size_eq]; omega), Lib.validD_nil]
      rfl
end RN
namespace RP
open NF

theorem cut_cons {u r : List UInt8} (h : 47 ∉ u) : NP.cutOn (u ++ 47 :: r) = u :: NP.cutOn r := by
  induction u with
  | nil =>
    show NP.cutOn (47 :: r) = _
    rw [NP.cutOn, if_pos rfl]
  | cons x u ih =>
    have hx : x ≠ 47 := by rintro rfl; simp at h
    have hu : 47 ∉ u := fun e => h (by simp [e])
    show NP.cutOn (x :: (u ++ 47 :: r)) = _
    rw [NP.cutOn, if_neg hx, ih hu]
theorem piece_data (s : ByteArray) (a b : Nat) : (s.extract a b).data.toList = (s.data.toList.drop a).take (b - a) := Lib.extract_data s a b
/-- The loop's state behind k bytes: what has been laid, and where the next part begins. -/
structure St (s : ByteArray) (k fr : Nat) (done : List ByteArray) : Prop where
  le : k ≤ s.size
  lo : fr ≤ k
  no : 47 ∉ (s.data.toList.drop fr).take (k - fr)
  eq : done.map (·.data.toList) ++ NP.cutOn (s.data.toList.drop fr) = NP.cutOn s.data.toList
theorem St.zero (s : ByteArray) : St s 0 0 [] := ⟨Nat.zero_le _, Nat.le_refl _, by simp, by simp⟩
theorem St.skip {s : ByteArray} {k fr : Nat} {done : List ByteArray} (h : St s k fr done) (hk : k < s.size) (hx : s[k] ≠ 47) : St s (k + 1) fr done := by
  refine ⟨hk, Nat.le_succ_of_le h.lo, ?_, h.eq⟩
  have e : k + 1 - fr = (k - fr) + 1 := by have := h.lo; omega
  rw [e, List.take_add_one]
  have hg : (s.data.toList.drop fr)[k - fr]? = some s[k] := by
    rw [List.getElem?_drop]
    have : fr + (k - fr) = k := by have := h.lo; omega
    rw [this]
    exact Lib.data_getElem? s k hk
  rw [hg]
  simp only [Option.toList_some, List.mem_append, List.mem_singleton, not_or]
  exact ⟨h.no, fun e => hx e.symm⟩
theorem St.cut {s : ByteArray} {k fr : Nat} {done : List ByteArray} (h : St s k fr done) (hk : k < s.size) (hx : s[k] = 47) : St s (k + 1) (k + 1) (done ++ [s.extract fr k]) := by
  refine ⟨hk, Nat.le_refl _, by simp, ?_⟩
  rw [← h.eq]
  have hk2 : k < s.data.toList.length := by rw [← Lib.size_eq]; exact hk
  have hv : s.data.toList[k] = 47 := by
    have := Lib.data_getElem? s k hk
    rw [List.getElem?_eq_getElem hk2, Option.some.injEq] at this
    rw [this, hx]
  have e : s.data.toList.drop fr = (s.data.toList.drop fr).take (k - fr) ++ 47 :: s.data.toList.drop (k + 1) := by
    have h1 := List.take_append_drop (k - fr) (s.data.toList.drop fr)
    rw [List.drop_drop] at h1
    have e2 : fr + (k - fr) = k := by have := h.lo; omega
    rw [e2, List.drop_eq_getElem_cons hk2, hv] at h1
    exact h1.symm
  rw [List.map_append, List.append_assoc]
  congr 1
  conv => rhs; rw [e, cut_cons h.no]
  rw [List.map_cons, List.map_nil, piece_data]
  rfl
theorem St.last {s : ByteArray} {fr : Nat} {done : List ByteArray} (h : St s s.size fr done) : (done ++ [s.extract fr s.size]).map (·.data.toList) = NP.cutOn s.data.toList := by
  rw [← h.eq, List.map_append]
  congr 1
  have e : (s.data.toList.drop fr).take (s.size - fr) = s.data.toList.drop fr := by
    rw [List.take_of_length_le]
    rw [List.length_drop, ← Lib.size_eq]
    exact Nat.le_refl _
  have hn := h.no
  rw [e] at hn
  rw [List.map_cons, List.map_nil, piece_data, e, NP.cutOn_none hn]
def PRel (s : ByteArray) (B : Nat) (w : World) (v f i : Value) (wr : World) : Prop :=
  ∃ (k fr : Nat) (done : List ByteArray), i = .int .i64 k ∧ f = .int .i64 fr ∧ wr.ownsRow B 9 1 v done.length (done.map Value.string) ∧ Below B w wr ∧ done.length ≤ k ∧
    (St s k fr done ∨ k = s.size + 1 ∧ done.map (·.data.toList) = NP.cutOn s.data.toList) ∧ (∀ x ∈ done, x.size ≤ s.size)
def PartsPost (s : ByteArray) (w : World) (e : Ending) (w' : World) : Prop := ∃ (bk c : Nat) (xs : List ByteArray), e = .returned (.slice (some ⟨bk, 0, none⟩) xs.length c) ∧ xs.length ≤ c ∧
      xs.map (·.data.toList) = NP.cutOn s.data.toList ∧ (∀ x ∈ xs, x.size ≤ s.size) ∧ Lies bk xs w' ∧ w.heap.size ≤ bk ∧ Below w.heap.size w w'
theorem infoS : (Tryz.prog.info? 9).map (fun i => (i.zero, i.size, i.bytes)) = some (some (.string ByteArray.empty), 1, 16) := by kernel_rfl
theorem post_row {s : ByteArray} {w w' : World} {v : Value} {done : List ByteArray} (ho : w'.ownsRow w.heap.size 9 1 v done.length (done.map Value.string)) (hb : Below w.heap.size w w')
    (he : done.map (·.data.toList) = NP.cutOn s.data.toList) (hs : ∀ x ∈ done, x.size ≤ s.size) : PartsPost s w (.returned v) w' := by
  have hne : done ≠ [] := by
    rintro rfl
    exact NP.cutOn_ne s.data.toList he.symm
  have hlen : 0 < done.length := List.length_pos_iff.2 hne
  have ho2 := ho
  obtain ⟨h1, h2 | ⟨g, cap, cur, rfl, hg, hh, hcap, hm, hcs, htk⟩⟩ := ho
  · omega
  · refine ⟨g, cap, done, rfl, hcap, he, hs, ⟨fun j x hj => ?_, ?_⟩, hg, hb⟩
    · have := ho2.cells (g := g) rfl j (.string x) (by rw [List.getElem?_map, hj]; rfl)
      rw [← this]
      have e : (⟨g, 0, none⟩ : Addr).add j = ⟨g, 0 + j, none⟩ := by
        simp only [Addr.add]
        split <;> simp_all
      rw [e]
    · exact (Array.getElem?_eq_some_iff.1 hh).1
theorem one_new (w : World) (x : Value) (t : TypeId) : ∀ (j : Nat) (u : Value), [x][j]? = some u → (w.alloc (.cells #[x] t)).cell? ((⟨w.heap.size, 0, none⟩ : Addr).add j) = some u := by
  intro j u hj
  match j with
  | 0 =>
    simp at hj
    subst hj
    have e : (⟨w.heap.size, 0, none⟩ : Addr).add 0 = ⟨w.heap.size, 0, none⟩ := rfl
    rw [e, World.cell?_alloc_at _ _ _ _ rfl]
    rfl
  | j + 1 => simp at hj
set_option maxRecDepth 100000 in
set_option maxHeartbeats 1600000 in
theorem parts_any (s : ByteArray) (w : World) (hs : s.size ≤ 1048576) :
    Calls Tryz.prog 67 #[.string s] w (PartsPost s w) := by
  obtain ⟨i0, hi, hz0, hz1, hz2⟩ := info_parts infoS
  go_enter Tryz.func67, Tryz.ntmps67
  go_wp2
  go_loopw [3, 4, 5] (PRel s w.heap.size w) (fun _ _ i _ => s.size + 1 - (Go.RowKit.intOf i).toNat)
  case atStart => exact ⟨0, 0, [], rfl, rfl, World.ownsRow_nil _ _ _ _, Below.refl _ _, Nat.le_refl _, .inl (St.zero s), by simp⟩
  case round =>
    obtain ⟨k, fr, done, rfl, rfl, hown, hb, hdl, hst, hsz⟩ := hrel
    have HO := Lib.hid hown
    have HB := Lib.hid hb
    have HS := Lib.hid hsz
    clear hown hb hsz
    rcases hst with hst | ⟨hk, he⟩
    · have hk := hst.le
      have hfr := hst.lo
      have HT := Lib.hid hst
      clear hst
      have hkz : (k : Int) ≤ s.size := by omega
      have hfz : (fr : Int) ≤ k := by omega
      have hbs : w.heap.size ≤ wr.heap.size := HB.out.size
      have hall : ∀ x ∈ done ++ [s.extract fr k], x.size ≤ s.size := by
        intro x hx
        rcases List.mem_append.1 hx with hx | hx
        · exact HS.out x hx
        · simp only [List.mem_singleton] at hx
          subst hx
          rw [ByteArray.size_extract]; omega
      have Hall := Lib.hid hall
      clear hall
      by_cases hlast : k = s.size
      · have hbz : ((k : Int) == (s.size : Int)) = true := beq_iff_eq.2 (by omega)
        have HE : Hid ((done ++ [s.extract fr k]).map (·.data.toList) = NP.cutOn s.data.toList) := Lib.hid (by rw [hlast]; rw [hlast] at HT; exact HT.out.last)
        have Hl := Lib.hid hlast
        clear hlast
        go_wp2_with (first | (at_builtin; refine wpList_append_own _ rfl _ _ 59 rfl w.heap.size 9 i0 (.string ByteArray.empty) 1 16 Tryz.underlying59 hi hz0 hz1 hz2 rfl (by decide) _ _ _ rfl (HO.out.alloc _) ⟨wr.heap.size, 0, none⟩ 1 1 [.string (s.extract fr k)] rfl rfl (one_new _ _ _) (fun x hx => by simp at hx; subst hx; rfl) (by unfold maxLen; omega) (by omega) (by simp; omega) ?_; intro v' w3 hown' hgrow3 hnil3))
        have hown2 : w3.ownsRow w.heap.size 9 1 v' (done ++ [s.extract fr k]).length ((done ++ [s.extract fr k]).map Value.string) := by
          rw [List.length_append, List.map_append]; exact hown'
        have HO2 := Lib.hid hown2
        have HB2 := Lib.hid ((HB.out.alloc hbs (.cells #[.string (s.extract fr k)] 9)).grown hgrow3 (by simp; omega) (fun j hj => (HO.out.lt j hj).1))
        clear hown' hgrow3 hnil3 hown2
        go_wp2
        go_roundw
        case rel => exact ⟨k + 1, k + 1, done ++ [s.extract fr k], by go_num, by go_num, HO2.out, HB2.out, by simp; omega, .inr ⟨by rw [Hl.out], HE.out⟩, Hall.out⟩
        case measure => simp [Go.RowKit.intOf]; omega
      · have hbz : ((k : Int) == (s.size : Int)) = false := beq_eq_false_iff_ne.2 (by omega)
        have hlt : k < s.size := by omega
        have hkz2 : (k : Int) < s.size := by omega
        by_cases hx : s[k] = 47
        · have hcb : ((((s[k]).toNat : Nat) : Int) == 47) = true := by rw [hx]; rfl
          have HE := Lib.hid (HT.out.cut hlt hx)
          clear hx hlast
          go_wp2_with (first | (at_builtin; refine wpList_append_own _ rfl _ _ 59 rfl w.heap.size 9 i0 (.string ByteArray.empty) 1 16 Tryz.underlying59 hi hz0 hz1 hz2 rfl (by decide) _ _ _ rfl (HO.out.alloc _) ⟨wr.heap.size, 0, none⟩ 1 1 [.string (s.extract fr k)] rfl rfl (one_new _ _ _) (fun x hx => by simp at hx; subst hx; rfl) (by unfold maxLen; omega) (by omega) (by simp; omega) ?_; intro v' w3 hown' hgrow3 hnil3))
          have hown2 : w3.ownsRow w.heap.size 9 1 v' (done ++ [s.extract fr k]).length ((done ++ [s.extract fr k]).map Value.string) := by
            rw [List.length_append, List.map_append]; exact hown'
          have HO2 := Lib.hid hown2
          have HB2 := Lib.hid ((HB.out.alloc hbs (.cells #[.string (s.extract fr k)] 9)).grown hgrow3 (by simp; omega) (fun j hj => (HO.out.lt j hj).1))
          clear hown' hgrow3 hnil3 hown2
          go_wp2
          go_roundw
          case rel => exact ⟨k + 1, k + 1, done ++ [s.extract fr k], by go_num, by go_num, HO2.out, HB2.out, by simp; omega, .inl HE.out, Hall.out⟩
          case measure => simp [Go.RowKit.intOf]; omega
        · have hcb : ((((s[k]).toNat : Nat) : Int) == 47) = false := by
            apply beq_eq_false_iff_ne.2
            intro e
            apply hx
            apply UInt8.toNat_inj.1
            show _ = 47
            omega
          have HE := Lib.hid (HT.out.skip hlt hx)
          clear hx hlast
          go_wp2
          go_roundw
          case rel => exact ⟨k + 1, fr, done, by go_num, rfl, HO.out, HB.out, by omega, .inl HE.out, HS.out⟩
          case measure => simp [Go.RowKit.intOf]; omega
    · have hkz : ¬ (k : Int) ≤ s.size := by omega
      have HF := Lib.hid (post_row HO.out HB.out he HS.out)
      clear he
      go_wp2
      go_ret
      exact HF.out
end RP
namespace RQ
open NF NC RP RN

theorem noneOf_snoc {l : List UInt8} {k : Nat} {x : UInt8} (h : NP.noneOf (l.take k) = true) (hx : l[k]? = some x) (h1 : x ≠ 47) (h2 : x ≠ 0) : NP.noneOf (l.take (k + 1)) = true := by
  rw [List.take_add_one, hx]
  unfold NP.noneOf at h ⊢
  simp only [Bool.not_eq_true', Bool.or_eq_false_iff, Option.toList_some] at h ⊢
  refine ⟨?_, ?_⟩
  · rw [List.contains_append, h.1]; simp [Ne.symm h1]
  · rw [List.contains_append, h.2]; simp [Ne.symm h2]
theorem noneOf_hit {l : List UInt8} {k : Nat} {x : UInt8} (hx : l[k]? = some x) (h : x = 47 ∨ x = 0) : NP.noneOf l = false := by
  unfold NP.noneOf
  have hm := List.mem_of_getElem? hx
  rcases h with rfl | rfl
  · simp [hm]
  · simp [hm]
def RetB (b : Bool) (w : World) (e : Ending) (w' : World) : Prop := e = .returned (.bool b) ∧ w = w'
set_option maxRecDepth 100000 in
set_option maxHeartbeats 800000 in
theorem rname_loop (s : ByteArray) (w : World) (hs : s.size ≤ 64) (h1 : s.toList.isEmpty = false) (h3 : (s.toList == [46]) = false) (h4 : (s.toList == [46, 46]) = false) :
    Calls Tryz.prog 68 #[.string s] w (RetB (NP.nameL s.data.toList) w) := by
  have Hg := Lib.hid (good_name h1 (by omega) h3 h4)
  have hp : 0 < s.size := by
    rw [Lib.size_eq, ← Lib.toList_data]
    apply List.length_pos_iff.2
    intro e; rw [e] at h1; simp at h1
  have hz1 : ¬ (s.size : Int) < 1 := by omega
  have hd1 : decide ((s.size : Int) < 1) = false := decide_eq_false hz1
  have hz2 : ¬ (64 : Int) < s.size := by omega
  have hd2 : decide ((64 : Int) < s.size) = false := decide_eq_false hz2
  have cV := valid_ref s w (by omega)
  clear hp h1
  cases hv : Lib.validD s.data.toList
  · have Hv := Lib.hid hv
    rw [hv] at cV
    clear hv
    go_enter Tryz.func68, Tryz.ntmps68
    go_wp2_with (go_at_call 96; refine cV.mono ?_; rintro e w' ⟨rfl, rfl⟩)
    go_ret
    exact ⟨by rw [Hg.out, Hv.out]; rfl, rfl⟩
  · have Hv := Lib.hid hv
    rw [hv] at cV
    clear hv
    go_enter Tryz.func68, Tryz.ntmps68
    go_wp2_with (go_at_call 96; refine cV.mono ?_; rintro e w' ⟨rfl, rfl⟩)
    go_loop [3] (fun i => ∃ k : Nat, k ≤ s.size ∧ i = .int .i64 k ∧ NP.noneOf (s.data.toList.take k) = true) (fun i => s.size - (Go.RowKit.intOf i).toNat)
    case atStart => exact ⟨0, Nat.zero_le _, rfl, rfl⟩
    case round =>
      obtain ⟨k, hk, rfl, hn⟩ := hrel
      have HN := Lib.hid hn
      clear hn
      by_cases hlt : k < s.size
      · have hz : (k : Int) < s.size := by omega
        have Hx := Lib.hid (Lib.data_getElem? s k hlt)
        by_cases hx0 : s[k] = 0
        · have hb : ((((s[k]).toNat : Nat) : Int) == 0) = true := by rw [hx0]; rfl
          have HF := Lib.hid (noneOf_hit Hx.out (.inr hx0))
          clear hx0
          go_wp2
          go_ret
          exact ⟨by rw [Hg.out, HF.out]; simp, rfl⟩
        · have hb : ((((s[k]).toNat : Nat) : Int) == 0) = false := by
            apply beq_eq_false_iff_ne.2
            intro e; apply hx0; apply UInt8.toNat_inj.1; show _ = 0; omega
          by_cases hx7 : s[k] = 47
          · have hb2 : ((((s[k]).toNat : Nat) : Int) == 47) = true := by rw [hx7]; rfl
            have HF := Lib.hid (noneOf_hit Hx.out (.inl hx7))
            clear hx0 hx7
            go_wp2
            go_ret
            exact ⟨by rw [Hg.out, HF.out]; simp, rfl⟩
          · have hb2 : ((((s[k]).toNat : Nat) : Int) == 47) = false := by
              apply beq_eq_false_iff_ne.2
              intro e; apply hx7; apply UInt8.toNat_inj.1; show _ = 47; omega
            have HF := Lib.hid (noneOf_snoc HN.out Hx.out hx7 hx0)
            clear hx0 hx7
            go_wp2
            go_round
            case rel => exact ⟨k + 1, by omega, by go_num, HF.out⟩
            case measure => simp [Go.RowKit.intOf]; omega
      · have hz : ¬ (k : Int) < s.size := by omega
        have HF : Hid (NP.noneOf s.data.toList = true) := Lib.hid (by have := HN.out; rw [List.take_of_length_le (by rw [← Lib.size_eq]; omega)] at this; exact this)
        go_wp2
        go_ret
        exact ⟨by rw [Hg.out, HF.out, Hv.out]; rfl, rfl⟩
set_option maxRecDepth 100000 in
set_option maxHeartbeats 800000 in
theorem rname_any (s : ByteArray) (w : World) (hs : s.size ≤ 4611686018427387904) :
    Calls Tryz.prog 68 #[.string s] w (RetB (NP.nameL s.data.toList) w) := by
  by_cases h0 : s.toList = []
  · have HF := Lib.hid (bad_name (s := s) (.inl h0))
    have hz : (s.size : Int) < 1 := by
      have e : s.size = 0 := by rw [Lib.size_eq, ← Lib.toList_data, h0]; rfl
      omega
    clear h0
    go_enter Tryz.func68, Tryz.ntmps68
    go_wp2
    go_ret
    exact ⟨by rw [HF.out]; rfl, rfl⟩
  · have h1 : s.toList.isEmpty = false := by simpa using h0
    have hp : 0 < s.size := by
      rw [Lib.size_eq, ← Lib.toList_data]
      exact List.length_pos_iff.2 h0
    have hz1 : ¬ (s.size : Int) < 1 := by omega
    have hd1 : decide ((s.size : Int) < 1) = false := decide_eq_false hz1
    by_cases h2 : s.size ≤ 64
    · by_cases h3 : s.toList = [46]
      · have HF := Lib.hid (bad_name (s := s) (.inr (.inr (.inl h3))))
        have hz2 : ¬ (64 : Int) < s.size := by omega
        have hd2 : decide ((64 : Int) < s.size) = false := decide_eq_false hz2
        have hb : (s.toList == [46]) = true := by rw [h3]; rfl
        clear h0
        go_enter Tryz.func68, Tryz.ntmps68
        go_wp2
        go_ret
        exact ⟨by rw [HF.out]; rfl, rfl⟩
      · have hb3 : (s.toList == [46]) = false := by simpa using h3
        by_cases h4 : s.toList = [46, 46]
        · have HF := Lib.hid (bad_name (s := s) (.inr (.inr (.inr h4))))
          have hz2 : ¬ (64 : Int) < s.size := by omega
          have hd2 : decide ((64 : Int) < s.size) = false := decide_eq_false hz2
          have hb : (s.toList == [46, 46]) = true := by rw [h4]; rfl
          clear h0 h3 h4
          go_enter Tryz.func68, Tryz.ntmps68
          go_wp2
          go_ret
          exact ⟨by rw [HF.out]; rfl, rfl⟩
        · exact rname_loop s w h2 h1 hb3 (by simpa using h4)
    · have HF := Lib.hid (bad_name (s := s) (.inr (.inl (by omega))))
      have hz2 : (64 : Int) < s.size := by omega
      clear h0
      go_enter Tryz.func68, Tryz.ntmps68
      go_wp2
      go_ret
      exact ⟨by rw [HF.out]; rfl, rfl⟩

/- Path -/
theorem path_few {l : List UInt8} (h : (NP.cutOn l).length ≤ 16) (h4 : l.length ≤ 400) : NP.pathL l = NP.allL (NP.cutOn l) := by
  have hc := NP.cutOn_length l
  unfold NP.pathL
  rw [decide_eq_true h4, decide_eq_true (by omega), NP.split_eq]
  simp
theorem path_many {l : List UInt8} (h : 16 < (NP.cutOn l).length) : NP.pathL l = false := by
  have hc := NP.cutOn_length l
  unfold NP.pathL
  rw [decide_eq_false (p := l.count 47 < 16) (by omega)]
  simp
set_option maxRecDepth 100000 in
set_option maxHeartbeats 1600000 in
theorem rpath_any (s : ByteArray) (w : World) (hs : s.size ≤ 1048576) :
    Calls Tryz.prog 45 #[.string s] w fun e w' => e = .returned (.bool (NP.pathL s.data.toList)) ∧ Below w.heap.size w w' := by
  have cP := parts_any s w hs
  go_enter Tryz.func45, Tryz.ntmps45
  go_wp2_with fail
  refine cP.mono ?_
  rintro e w1 ⟨bk, c, xs, rfl, hc, hx, hsz, hl, hbk, hb⟩
  have Hx := Lib.hid hx
  have Hsz := Lib.hid hsz
  have Hl := Lib.hid hl
  have Hb := Lib.hid hb
  have hxl : xs.length = (NP.cutOn s.data.toList).length := by rw [← hx, List.length_map]
  have hcl := NP.cutOn_length s.data.toList
  have hct : s.data.toList.count 47 ≤ s.data.toList.length := List.count_le_length
  have hle : xs.length ≤ 1048577 := by rw [Lib.size_eq] at hs; omega
  have Hxl := Lib.hid hxl
  clear hx hsz hl hb cP hcl hct hxl
  by_cases h4 : s.size ≤ 400
  · have hz4 : ¬ (400 : Int) < s.size := by omega
    have hd4 : decide ((400 : Int) < s.size) = false := decide_eq_false hz4
    by_cases h16 : xs.length ≤ 16
    · have hz16 : ¬ (16 : Int) < xs.length := by omega
      have hd16 : decide ((16 : Int) < xs.length) = false := decide_eq_false hz16
      have HP := Lib.hid (path_few (l := s.data.toList) (by rw [← Hxl.out]; exact h16) (by rw [← Lib.size_eq]; exact h4))
      go_wp2
      go_loop [4] (fun i => ∃ k : Nat, k ≤ xs.length ∧ i = .int .i64 k ∧ NP.allL ((xs.take k).map (·.data.toList)) = true) (fun i => xs.length - (Go.RowKit.intOf i).toNat)
      case atStart => exact ⟨0, Nat.zero_le _, rfl, rfl⟩
      case round =>
        obtain ⟨k, hk, rfl, ha⟩ := hrel
        have Ha := Lib.hid ha
        clear ha
        by_cases hlt : k < xs.length
        · obtain ⟨x, hx⟩ : ∃ x, xs[k]? = some x := ⟨xs[k], List.getElem?_eq_getElem hlt⟩
          have hz : (k : Int) < xs.length := by omega
          have hcell : w1.cell? ⟨bk, k, none⟩ = some (.string x) := by have := Hl.out.cells k x hx; rw [Nat.zero_add] at this; exact this
          have cN := rname_any x w1 (by have := Hsz.out x (List.mem_of_getElem? hx); omega)
          have HX := Lib.hid hx
          clear hx
          cases hn : NP.nameL x.data.toList
          · rw [hn] at cN
            have HM := Lib.hid (all_miss HX.out hn)
            clear hn
            go_wp2_with (go_at_call 68; refine cN.mono ?_; rintro e w' ⟨rfl, rfl⟩)
            go_ret
            exact ⟨by rw [HP.out, ← Hx.out, HM.out]; rfl, Hb.out⟩
          · rw [hn] at cN
            have HM := Lib.hid (all_snoc Ha.out HX.out hn)
            clear hn
            go_wp2_with (go_at_call 68; refine cN.mono ?_; rintro e w' ⟨rfl, rfl⟩)
            go_round
            case rel => exact ⟨k + 1, by omega, by go_num, HM.out⟩
            case measure => simp [Go.RowKit.intOf]; omega
        · have hz : ¬ (k : Int) < xs.length := by omega
          have HM : Hid (NP.allL (xs.map (·.data.toList)) = true) := Lib.hid (by have := Ha.out; rw [List.take_of_length_le (by omega)] at this; exact this)
          go_wp2
          go_ret
          exact ⟨by rw [HP.out, ← Hx.out, HM.out]; rfl, Hb.out⟩
    · have hz16 : (16 : Int) < xs.length := by omega
      have HP := Lib.hid (path_many (l := s.data.toList) (by rw [← Hxl.out]; omega))
      go_wp2
      go_ret
      exact ⟨by rw [HP.out]; rfl, Hb.out⟩
  · have hz4 : (400 : Int) < s.size := by omega
    have HP := Lib.hid (path_long (s := s) (by omega))
    go_wp2
    go_ret
    exact ⟨by rw [HP.out]; rfl, Hb.out⟩

/- Split -/
theorem rsplit_no (s : ByteArray) (w : World) (hs : s.size ≤ 1048576) (hp : NP.pathL s.data.toList = false) :
    Calls Tryz.prog 70 #[.string s] w fun e w' => e = .returned (.slice none 0 0) ∧ Below w.heap.size w w' := by
  have cP := rpath_any s w hs
  rw [hp] at cP
  clear hp
  go_enter Tryz.func70, Tryz.ntmps70
  go_wp2_with fail
  refine cP.mono ?_
  rintro e w1 ⟨rfl, hb⟩
  go_wp2
  go_ret
  exact ⟨rfl, hb⟩
theorem rsplit_yes (s : ByteArray) (w : World) (hs : s.size ≤ 1048576) (hp : NP.pathL s.data.toList = true) :
    Calls Tryz.prog 70 #[.string s] w (PartsPost s w) := by
  have cP := rpath_any s w hs
  rw [hp] at cP
  clear hp
  go_enter Tryz.func70, Tryz.ntmps70
  go_wp2_with fail
  refine cP.mono ?_
  rintro e w1 ⟨rfl, hb⟩
  have cQ := parts_any s w1 hs
  have Hb := Lib.hid hb
  clear hb cP
  go_wp2_with fail
  refine cQ.mono ?_
  rintro e w2 ⟨bk, c, xs, rfl, hc, hx, hsz, hl, hbk, hb2⟩
  have H : Hid (PartsPost s w (.returned (.slice (some ⟨bk, 0, none⟩) xs.length c)) w2) := Lib.hid ⟨bk, c, xs, rfl, hc, hx, hsz, hl, Nat.le_trans Hb.out.size hbk, Hb.out.trans (hb2.mono Hb.out.size)⟩
  clear hc hx hsz hl hbk hb2 cQ
  go_wp2
  go_ret
  exact H.out
end RQ
namespace RT
open NF NC RP RN RQ

/-- The last of the parts is what stands behind the last slash. -/
theorem last_part (l : List UInt8) : (NP.cutOn l).getLast? = some (NP.lastL l) := by
  rcases NP.parts l with h | ⟨u, t, rfl, h⟩
  · rw [NP.cutOn_none h, NP.lastL_none h]; rfl
  · rw [NP.cutOn_snoc h, NP.lastL_snoc h]; simp

theorem lies_last {s : ByteArray} {xs : List ByteArray} {bk n : Nat} {w : World} (h : xs.map (·.data.toList) = NP.cutOn s.data.toList) (hn : xs.length = n + 1) (hl : Lies bk xs w) :
    ∃ v : ByteArray, v.data.toList = NP.lastL s.data.toList ∧ w.cell? ⟨bk, n, none⟩ = some (.string v) ∧ v ∈ xs := by
  obtain ⟨x, hx⟩ : ∃ x, xs[n]? = some x := ⟨xs[n]'(by omega), List.getElem?_eq_getElem _⟩
  have h1 := last_part s.data.toList
  rw [← h, List.getLast?_map, List.getLast?_eq_getElem?, hn, Nat.add_sub_cancel, hx] at h1
  have := hl.cells n x hx
  rw [Nat.zero_add] at this
  exact ⟨x, by simpa using h1, this, List.mem_of_getElem? hx⟩
theorem up_take (l : List UInt8) (h : 2 ≤ (NP.cutOn l).length) : (NP.lastL l).length + 1 ≤ l.length ∧ NP.upL l = l.take (l.length - (NP.lastL l).length - 1) := by
  rcases NP.parts l with h0 | ⟨u, t, rfl, h0⟩
  · rw [NP.cutOn_none h0] at h; simp at h
  · rw [NP.lastL_snoc h0, NP.upL_snoc h0]
    have e : (u ++ 47 :: t).length - t.length - 1 = u.length := by simp; omega
    rw [e]
    exact ⟨by simp, by simp⟩
theorem up_one (l : List UInt8) (h : (NP.cutOn l).length < 2) : NP.upL l = [] := by
  have := NP.cutOn_length l
  apply NP.upL_none
  intro hm
  have := List.count_pos_iff.2 hm
  omega
set_option maxRecDepth 100000 in
set_option maxHeartbeats 1600000 in
theorem rparent_any (s : ByteArray) (w : World) (hs : s.size ≤ 1048576) :
    Calls Tryz.prog 48 #[.string s] w (TextPost (NP.parentL s.data.toList) w) := by
  cases hp : NP.pathL s.data.toList
  · have Hf : Hid (NP.parentL s.data.toList = []) := Lib.hid (by unfold NP.parentL; rw [hp]; rfl)
    have cS := rsplit_no s w hs hp
    clear hp
    go_enter Tryz.func48, Tryz.ntmps48
    go_wp2_with fail
    refine cS.mono ?_
    rintro e w1 ⟨rfl, hb⟩
    go_wp2
    go_ret
    exact ⟨_, rfl, by rw [Hf.out], hb⟩
  · have Hf : Hid (NP.parentL s.data.toList = NP.upL s.data.toList) := Lib.hid (by unfold NP.parentL; rw [hp]; rfl)
    have cS := rsplit_yes s w hs hp
    clear hp
    go_enter Tryz.func48, Tryz.ntmps48
    go_wp2_with fail
    refine cS.mono ?_
    rintro e w1 ⟨bk, c, xs, rfl, hc, hx, hsz, hl, hbk, hb⟩
    have hxl : xs.length = (NP.cutOn s.data.toList).length := by rw [← hx, List.length_map]
    have hcl := NP.cutOn_length s.data.toList
    have hct : s.data.toList.count 47 ≤ s.data.toList.length := List.count_le_length
    have hle : xs.length ≤ 1048577 := by rw [Lib.size_eq] at hs; omega
    by_cases h2 : 2 ≤ xs.length
    · obtain ⟨n, hn⟩ : ∃ n, xs.length = n + 1 := ⟨xs.length - 1, by omega⟩
      obtain ⟨v, hv, hcell, hmem⟩ := lies_last hx hn hl
      obtain ⟨hu1, hu2⟩ := up_take s.data.toList (by omega)
      rw [← hv, ← Lib.size_eq, ← Lib.size_eq] at hu1 hu2
      have Hu := Lib.hid hu2
      have hvz : (v.size : Int) + 1 ≤ s.size := by omega
      have hnz : ¬ ((n : Int) + 1 < 2) := by omega
      have hn9 : (n : Int) ≤ 1048577 := by omega
      obtain ⟨m, hm⟩ : ∃ m : Nat, s.size = m + v.size + 1 := ⟨s.size - v.size - 1, by omega⟩
      have hmz : (s.size : Int) - v.size - 1 = m := by omega
      have Hm : Hid (m = s.size - v.size - 1) := Lib.hid (by omega)
      have hm1 : (m : Int) ≤ s.size := by omega
      rw [hn]
      have Hmz := Lib.hid hmz
      clear hn hx hsz hl hbk hxl hcl hct hu2 hu1 hmem hv hm hmz cS
      go_wp2_with fail
      go_ret
      refine ⟨_, rfl, ?_, hb⟩
      rw [Hf.out, Hu.out, ← extract_to]
    · have hnz : (xs.length : Int) < 2 := by omega
      have Hu := Lib.hid (up_one s.data.toList (by omega))
      clear hx hsz hl hbk hxl hcl hct cS
      go_wp2
      go_ret
      exact ⟨_, rfl, by rw [Hf.out, Hu.out], hb⟩
set_option maxRecDepth 100000 in
set_option maxHeartbeats 1600000 in
theorem rbase_any (s : ByteArray) (w : World) (hs : s.size ≤ 1048576) :
    Calls Tryz.prog 51 #[.string s] w (TextPost (NP.baseL s.data.toList) w) := by
  cases hp : NP.pathL s.data.toList
  · have Hf : Hid (NP.baseL s.data.toList = []) := Lib.hid (by unfold NP.baseL; rw [hp]; rfl)
    have cS := rsplit_no s w hs hp
    clear hp
    go_enter Tryz.func51, Tryz.ntmps51
    go_wp2_with fail
    refine cS.mono ?_
    rintro e w1 ⟨rfl, hb⟩
    go_wp2
    go_ret
    exact ⟨_, rfl, by rw [Hf.out], hb⟩
  · have Hf : Hid (NP.baseL s.data.toList = NP.lastL s.data.toList) := Lib.hid (by unfold NP.baseL; rw [hp]; rfl)
    have cS := rsplit_yes s w hs hp
    clear hp
    go_enter Tryz.func51, Tryz.ntmps51
    go_wp2_with fail
    refine cS.mono ?_
    rintro e w1 ⟨bk, c, xs, rfl, hc, hx, hsz, hl, hbk, hb⟩
    have hxl : xs.length = (NP.cutOn s.data.toList).length := by rw [← hx, List.length_map]
    have hcl := NP.cutOn_length s.data.toList
    have hct : s.data.toList.count 47 ≤ s.data.toList.length := List.count_le_length
    have hle : xs.length ≤ 1048577 := by rw [Lib.size_eq] at hs; omega
    obtain ⟨n, hn⟩ : ∃ n, xs.length = n + 1 := ⟨xs.length - 1, by omega⟩
    obtain ⟨v, hv, hcell, hmem⟩ := lies_last hx hn hl
    have Hv := Lib.hid hv
    have hb0 : ((((n + 1 : Nat)) : Int) == 0) = false := beq_eq_false_iff_ne.2 (by omega)
    have hb1 : ((n : Int) + 1 == 0) = false := beq_eq_false_iff_ne.2 (by omega)
    have hn9 : (n : Int) ≤ 1048577 := by omega
    rw [hn]
    clear hn hx hsz hl hbk hxl hcl hct hmem hv cS
    go_wp2_with fail
    go_ret
    exact ⟨_, rfl, by rw [Hf.out, Hv.out], hb⟩

end RT
namespace RO
open NF NI NC RP RN RQ NB RT

theorem less_cmp : ∀ a b : List UInt8, Op.bytesLess a b = decide (NP.cmpL a b < 0)
  | [], [] => rfl
  | [], _ :: _ => rfl
  | _ :: _, [] => rfl
  | x :: a, y :: b => by
    have ih := less_cmp a b
    unfold Op.bytesLess NP.cmpL
    by_cases h1 : x.toNat < y.toNat
    · have e : x < y := h1
      rw [if_pos h1]
      simp [e]
    · have e : ¬ x < y := h1
      rw [if_neg h1]
      by_cases h2 : y.toNat < x.toNat
      · have e2 : (x == y) = false := by
          rw [beq_eq_false_iff_ne]; rintro rfl; omega
        rw [if_pos h2]
        simp [e, e2]
      · have e2 : x = y := UInt8.toNat_inj.1 (by omega)
        rw [if_neg h2]
        subst e2
        simp [e, ih]
theorem cmpL_swap : ∀ a b : List UInt8, NP.cmpL b a = - NP.cmpL a b
  | [], [] => rfl
  | [], _ :: _ => rfl
  | _ :: _, [] => rfl
  | x :: a, y :: b => by
    unfold NP.cmpL
    by_cases h1 : x.toNat < y.toNat
    · rw [if_pos h1, if_neg (by omega), if_pos h1]; rfl
    · by_cases h2 : y.toNat < x.toNat
      · rw [if_pos h2, if_neg h1, if_pos h2]
      · rw [if_neg h2, if_neg h1, if_neg h1, if_neg h2]; exact cmpL_swap a b
theorem cmpL_cases : ∀ a b : List UInt8, NP.cmpL a b = -1 ∨ NP.cmpL a b = 0 ∨ NP.cmpL a b = 1
  | [], [] => by simp [NP.cmpL]
  | [], _ :: _ => by simp [NP.cmpL]
  | _ :: _, [] => by simp [NP.cmpL]
  | x :: a, y :: b => by
    unfold NP.cmpL
    split
    · simp
    · split
      · simp
      · exact cmpL_cases a b
theorem cmpL_zero : ∀ {a b : List UInt8}, NP.cmpL a b = 0 → a = b
  | [], [], _ => rfl
  | [], _ :: _, h => by simp [NP.cmpL] at h
  | _ :: _, [], h => by simp [NP.cmpL] at h
  | x :: a, y :: b, h => by
    unfold NP.cmpL at h
    split at h
    · omega
    · split at h
      · omega
      · rw [UInt8.toNat_inj.1 (show x.toNat = y.toNat by omega), cmpL_zero h]
theorem less_yes {x y : ByteArray} (h : NP.cmpL x.data.toList y.data.toList = -1) : Op.bytesLess x.toList y.toList = true ∧ Op.bytesLess y.toList x.toList = false := by
  rw [Lib.toList_data, Lib.toList_data, less_cmp, less_cmp, cmpL_swap x.data.toList, h]; exact ⟨rfl, rfl⟩
theorem less_not {x y : ByteArray} (h : NP.cmpL x.data.toList y.data.toList = 1) : Op.bytesLess x.toList y.toList = false ∧ Op.bytesLess y.toList x.toList = true := by
  rw [Lib.toList_data, Lib.toList_data, less_cmp, less_cmp, cmpL_swap x.data.toList, h]; exact ⟨rfl, rfl⟩
theorem cmpL_self : ∀ a : List UInt8, NP.cmpL a a = 0
  | [] => rfl
  | x :: a => by unfold NP.cmpL; rw [if_neg (by omega), if_neg (by omega)]; exact cmpL_self a
theorem less_self (x : ByteArray) : Op.bytesLess x.toList x.toList = false := by
  rw [Lib.toList_data, less_cmp, cmpL_self]; rfl
theorem gtr_str (t : TypeId) (a b : ByteArray) : binOp .gtr t (.string a) (.string b) = pure (.bool (!(Op.bytesLess a.toList b.toList || a.toList == b.toList))) := by simp [binOp, Op.stringOp]
attribute [local go_sem] gtr_str
def OrdPost (a b : ByteArray) (w : World) (e : Ending) (w' : World) : Prop := e = .returned (.int .i64 (NP.ordL a.data.toList b.data.toList)) ∧ Below w.heap.size w w'
theorem keep_lies {bk : Nat} {xs : List ByteArray} {w w' : World} (h : Lies bk xs w) (hb : Below w.heap.size w w') : Lies bk xs w' :=
  ⟨fun j x hj => by rw [hb.cell (p := ⟨bk, 0 + j, none⟩) h.block]; exact h.cells j x hj, Nat.lt_of_lt_of_le h.block hb.size⟩
theorem few {s : ByteArray} {xs : List ByteArray} (hx : xs.map (·.data.toList) = NP.cutOn s.data.toList) (hs : s.size ≤ 1048576) : xs.length ≤ 1048577 := by
  have h1 : xs.length = (NP.cutOn s.data.toList).length := by rw [← hx, List.length_map]
  have h2 := NP.cutOn_length s.data.toList
  have h3 : s.data.toList.count 47 ≤ s.data.toList.length := List.count_le_length
  rw [Lib.size_eq] at hs
  omega
theorem take_data {xs ys : List ByteArray} {k : Nat} (h : xs.take k = ys.take k) : (xs.map (·.data.toList)).take k = (ys.map (·.data.toList)).take k := by
  rw [← List.map_take, ← List.map_take, h]
set_option maxRecDepth 100000 in
set_option maxHeartbeats 3200000 in
theorem rorder_any (a b : ByteArray) (w : World) (ha : a.size ≤ 1048576) (hb : b.size ≤ 1048576) :
    Calls Tryz.prog 49 #[.string a, .string b] w (OrdPost a b w) := by
  have cA := parts_any a w ha
  go_enter Tryz.func49, Tryz.ntmps49
  go_wp2_with fail
  refine cA.mono ?_
  rintro e w1 ⟨b1, c1, xs, rfl, hc1, hx, hxs, hl1, hk1, hb1⟩
  have HB1 := Lib.hid hb1
  have HL1 := Lib.hid hl1
  have hxn := few hx ha
  have HX := Lib.hid hx
  have cB := parts_any b w1 hb
  clear hb1 hl1 cA hx hxs hk1
  go_wp2_with fail
  refine cB.mono ?_
  rintro e w2 ⟨b2, c2, ys, rfl, hc2, hy, hys, hl2, hk2, hb2⟩
  have HB2 := Lib.hid (HB1.out.trans (hb2.mono HB1.out.size))
  have HL1' := Lib.hid (keep_lies HL1.out hb2)
  have HL2 := Lib.hid hl2
  have hyn := few hy hb
  have HY := Lib.hid hy
  have HO := Lib.hid (NP.ordL_parts a.data.toList b.data.toList)
  clear hb2 hl2 cB hy hys hk2 HB1 HL1
  go_wp2
  go_loopw [7] (fun i wr => ∃ k : Nat, k ≤ xs.length ∧ k ≤ ys.length ∧ i = .int .i64 k ∧ xs.take k = ys.take k ∧ NO.Drawn w2 wr) (fun i _ => xs.length - (Go.RowKit.intOf i).toNat)
  case atStart => exact ⟨0, Nat.zero_le _, Nat.zero_le _, rfl, rfl, NO.Drawn.refl _⟩
  case round =>
    obtain ⟨k, hkx, hky, rfl, ht, n, rfl⟩ := hrel
    have HT := Lib.hid ht
    clear ht
    by_cases hlx : k < xs.length
    · have hzx : (k : Int) < xs.length := by omega
      have hdx : decide ((k : Int) < xs.length) = true := decide_eq_true hzx
      by_cases hly : k < ys.length
      · have hzy : (k : Int) < ys.length := by omega
        obtain ⟨x, hx⟩ : ∃ x, xs[k]? = some x := ⟨xs[k], List.getElem?_eq_getElem hlx⟩
        obtain ⟨y, hy⟩ : ∃ y, ys[k]? = some y := ⟨ys[k], List.getElem?_eq_getElem hly⟩
        have ca : w2.cell? ⟨b1, k, none⟩ = some (.string x) := by have := HL1'.out.cells k x hx; rw [Nat.zero_add] at this; exact this
        have cb : w2.cell? ⟨b2, k, none⟩ = some (.string y) := by have := HL2.out.cells k y hy; rw [Nat.zero_add] at this; exact this
        have HXk := Lib.hid hx
        have HYk := Lib.hid hy
        have hmiss : x.data.toList ≠ y.data.toList → NP.ordL a.data.toList b.data.toList = NP.cmpL x.data.toList y.data.toList := by
          intro hne
          rw [HO.out, ← HX.out, ← HY.out]
          exact NP.cmpP_miss (take_data HT.out) (by rw [List.getElem?_map, hx]; rfl) (by rw [List.getElem?_map, hy]; rfl) hne
        rcases cmpL_cases x.data.toList y.data.toList with hc | hc | hc
        · obtain ⟨hl, _⟩ := less_yes hc
          have HM : Hid (NP.ordL a.data.toList b.data.toList = -1) := Lib.hid (by rw [hmiss (by intro e; rw [e, cmpL_self] at hc; omega), hc])
          clear hx hy hc hmiss
          go_wp2
          go_quiet (fail)
          go_wp2
          go_ret
          exact ⟨by rw [HM.out]; rfl, by first | exact HB2.out.trans ((NA.below_drewN (Below.refl w2.heap.size w2) _).mono HB2.out.size) | exact HB2.out.trans ((NA.below_drewN (NA.below_drewN (Below.refl w2.heap.size w2) _) _).mono HB2.out.size) | exact HB2.out.trans ((NA.below_drewN (NA.below_drewN (NA.below_drewN (Below.refl w2.heap.size w2) _) _) _).mono HB2.out.size)⟩
        · have hxy : x = y := byte_ext (cmpL_zero hc)
          subst hxy
          have hl := less_self x
          have HT2 : Hid (xs.take (k + 1) = ys.take (k + 1)) := Lib.hid (by rw [List.take_add_one, List.take_add_one, HT.out, HXk.out, HYk.out])
          clear hx hy hc hmiss
          go_wp2
          go_quiet (fail)
          rename_i nq
          go_wp2
          generalize hnn : n + nq = n2
          go_quiet (fail)
          go_wp2
          go_roundw
          case rel => exact ⟨k + 1, by omega, by omega, by go_num, HT2.out, _, by first | rfl | rw [World.drewN_drewN]⟩
          case measure => simp [Go.RowKit.intOf]; omega
        · obtain ⟨hl1, hl2⟩ := less_not hc
          have hq : (x.toList == y.toList) = false := by
            rw [Lib.toList_data, Lib.toList_data, beq_eq_false_iff_ne]
            intro e
            rw [e, cmpL_self] at hc
            omega
          have HM : Hid (NP.ordL a.data.toList b.data.toList = 1) := Lib.hid (by rw [hmiss (by intro e; rw [e, cmpL_self] at hc; omega), hc])
          clear hx hy hc hmiss
          go_wp2
          go_quiet (fail)
          go_wp2
          go_quiet (fail)
          go_wp2
          go_ret
          exact ⟨by rw [HM.out]; rfl, by first | exact HB2.out.trans ((NA.below_drewN (Below.refl w2.heap.size w2) _).mono HB2.out.size) | exact HB2.out.trans ((NA.below_drewN (NA.below_drewN (Below.refl w2.heap.size w2) _) _).mono HB2.out.size) | exact HB2.out.trans ((NA.below_drewN (NA.below_drewN (NA.below_drewN (Below.refl w2.heap.size w2) _) _) _).mono HB2.out.size)⟩
      · have hzy : ¬ (k : Int) < ys.length := by omega
        have HM : Hid (NP.ordL a.data.toList b.data.toList = 1) := Lib.hid (by
          rw [HO.out, ← HX.out, ← HY.out, NP.cmpP_end (m := k) (by simp; omega) (take_data HT.out)]
          unfold NP.cmpN
          simp only [List.length_map]
          rw [if_neg (by omega), if_pos (by omega)])
        have h1 : ¬ (xs.length : Int) < ys.length := by omega
        have h2 : (ys.length : Int) < xs.length := by omega
        go_wp2
        go_ret
        exact ⟨by rw [HM.out]; rfl, HB2.out.trans ((NA.below_drewN (Below.refl w2.heap.size w2) _).mono HB2.out.size)⟩
    · have hzx : ¬ (k : Int) < xs.length := by omega
      have hdx : decide ((k : Int) < xs.length) = false := decide_eq_false hzx
      have hend : NP.ordL a.data.toList b.data.toList = NP.cmpN xs.length ys.length := by
        rw [HO.out, ← HX.out, ← HY.out, NP.cmpP_end (m := k) (by simp; omega) (take_data HT.out), List.length_map, List.length_map]
      by_cases h1 : xs.length < ys.length
      · have HM : Hid (NP.ordL a.data.toList b.data.toList = -1) := Lib.hid (by rw [hend]; unfold NP.cmpN; rw [if_pos h1])
        have h1z : (xs.length : Int) < ys.length := by omega
        clear hend
        go_wp2
        go_ret
        exact ⟨by rw [HM.out]; rfl, HB2.out.trans ((NA.below_drewN (Below.refl w2.heap.size w2) _).mono HB2.out.size)⟩
      · have HM : Hid (NP.ordL a.data.toList b.data.toList = 0) := Lib.hid (by rw [hend]; unfold NP.cmpN; rw [if_neg h1, if_neg (by omega)])
        have h1z : ¬ (xs.length : Int) < ys.length := by omega
        have h2z : ¬ (ys.length : Int) < xs.length := by omega
        clear hend
        go_wp2
        go_ret
        exact ⟨by rw [HM.out]; rfl, HB2.out.trans ((NA.below_drewN (Below.refl w2.heap.size w2) _).mono HB2.out.size)⟩

/- Within -/
theorem pre_full {xs ys : List ByteArray} (ht : xs.take ys.length = ys.take ys.length) : ys.map (·.data.toList) <+: xs.map (·.data.toList) := by
  rw [List.take_length] at ht
  refine ⟨(xs.drop ys.length).map (·.data.toList), ?_⟩
  have e : xs = ys ++ xs.drop ys.length := by
    conv => lhs; rw [← List.take_append_drop ys.length xs, ht]
  rw [← List.map_append, ← e]
theorem pre_miss {xs ys : List ByteArray} {k : Nat} {x y : ByteArray} (hx : xs[k]? = some x) (hy : ys[k]? = some y) (hne : x.data.toList ≠ y.data.toList) : ¬ ys.map (·.data.toList) <+: xs.map (·.data.toList) := by
  rintro ⟨t, ht⟩
  have h1 : (xs.map (·.data.toList))[k]? = some x.data.toList := by rw [List.getElem?_map, hx]; rfl
  have h2 : (ys.map (·.data.toList))[k]? = some y.data.toList := by rw [List.getElem?_map, hy]; rfl
  have hlt : k < (ys.map (·.data.toList)).length := (List.getElem?_eq_some_iff.1 h2).1
  rw [← ht, List.getElem?_append_left hlt, h2, Option.some.injEq] at h1
  exact hne h1.symm
theorem within_no_parts {p q : List UInt8} (hp : NP.pathL p = true) (hq : q ≠ []) (h : ¬ NP.cutOn q <+: NP.cutOn p) : NP.withinL p q = false := by
  rw [Bool.eq_false_iff]
  intro e
  exact h ((NP.within_parts hp hq).1 e).2
def InPost (p q : ByteArray) (w : World) (e : Ending) (w' : World) : Prop := e = .returned (.bool (NP.withinL p.data.toList q.data.toList)) ∧ Below w.heap.size w w'
set_option maxRecDepth 100000 in
set_option maxHeartbeats 3200000 in
theorem rwithin_any (p q : ByteArray) (w : World) (hps : p.size ≤ 1048576) (hqs : q.size ≤ 1048576) :
    Calls Tryz.prog 71 #[.string p, .string q] w (InPost p q w) := by
  have cP := rpath_any p w hps
  cases hp : NP.pathL p.data.toList
  · have HF := Lib.hid (within_no (q := q.data.toList) hp)
    rw [hp] at cP
    clear hp
    go_enter Tryz.func71, Tryz.ntmps71
    go_wp2_with fail
    refine cP.mono ?_
    rintro e w1 ⟨rfl, hb⟩
    go_wp2
    go_ret
    exact ⟨by rw [HF.out]; rfl, hb⟩
  · have Hp := Lib.hid hp
    rw [hp] at cP
    clear hp
    by_cases hq0 : q.toList = []
    · have e0 : q.data.toList = [] := by rw [← Lib.toList_data]; exact hq0
      have HF : Hid (NP.withinL p.data.toList q.data.toList = true) := Lib.hid (by rw [e0]; exact NP.within_root Hp.out)
      have h1 : q.toList.isEmpty = true := by rw [hq0]; rfl
      clear hq0 e0
      go_enter Tryz.func71, Tryz.ntmps71
      go_wp2_with fail
      refine cP.mono ?_
      rintro e w1 ⟨rfl, hb⟩
      go_wp2
      go_ret
      exact ⟨by rw [HF.out]; rfl, hb⟩
    · have hq1 : q.toList.isEmpty = false := by simpa using hq0
      have Hq : Hid (q.data.toList ≠ []) := Lib.hid (by rw [← Lib.toList_data]; exact hq0)
      clear hq0
      go_enter Tryz.func71, Tryz.ntmps71
      go_wp2_with fail
      refine cP.mono ?_
      rintro e w1 ⟨rfl, hb1⟩
      have HB1 := Lib.hid hb1
      have cQ := rpath_any q w1 hqs
      clear hb1 cP
      go_wp2_with fail
      refine cQ.mono ?_
      rintro e w2 ⟨rfl, hb2⟩
      have HB2 := Lib.hid (HB1.out.trans (hb2.mono HB1.out.size))
      clear hb2 cQ HB1
      cases hpq : NP.pathL q.data.toList
      · have HF := Lib.hid (NP.within_noq Hp.out Hq.out hpq)
        clear hpq
        go_wp2
        go_ret
        exact ⟨by rw [HF.out]; rfl, HB2.out⟩
      · have Hpq := Lib.hid hpq
        clear hpq
        have cA := parts_any p w2 hps
        go_wp2_with fail
        refine cA.mono ?_
        rintro e w3 ⟨b1, c1, xs, rfl, hc1, hx, hxs, hl1, hk1, hb3⟩
        have HB3 := Lib.hid (HB2.out.trans (hb3.mono HB2.out.size))
        have HL1 := Lib.hid hl1
        have hxn := few hx hps
        have HX := Lib.hid hx
        have cB := parts_any q w3 hqs
        clear hb3 hl1 cA hx hxs hk1 HB2
        go_wp2_with fail
        refine cB.mono ?_
        rintro e w4 ⟨b2, c2, ys, rfl, hc2, hy, hys, hl2, hk2, hb4⟩
        have HB4 := Lib.hid (HB3.out.trans (hb4.mono HB3.out.size))
        have HL1' := Lib.hid (keep_lies HL1.out hb4)
        have HL2 := Lib.hid hl2
        have hyn := few hy hqs
        have HY := Lib.hid hy
        clear hb4 hl2 cB hy hys hk2 HB3 HL1
        by_cases hlen : xs.length < ys.length
        · have HF : Hid (NP.withinL p.data.toList q.data.toList = false) := Lib.hid (within_no_parts Hp.out Hq.out (by
            intro h
            rw [← HX.out, ← HY.out] at h
            have := h.length_le
            rw [List.length_map, List.length_map] at this
            omega))
          have hz : (xs.length : Int) < ys.length := by omega
          go_wp2
          go_ret
          exact ⟨by rw [HF.out]; rfl, HB4.out⟩
        · have hz : ¬ (xs.length : Int) < ys.length := by omega
          have hdz : decide ((xs.length : Int) < ys.length) = false := decide_eq_false hz
          go_wp2
          go_loopw [7] (fun i wr => ∃ k : Nat, k ≤ ys.length ∧ i = .int .i64 k ∧ xs.take k = ys.take k ∧ NO.Drawn w4 wr) (fun i _ => ys.length - (Go.RowKit.intOf i).toNat)
          case atStart => exact ⟨0, Nat.zero_le _, rfl, rfl, NO.Drawn.refl _⟩
          case round =>
            obtain ⟨k, hky, rfl, ht, n, rfl⟩ := hrel
            have HT := Lib.hid ht
            clear ht
            by_cases hly : k < ys.length
            · have hzy : (k : Int) < ys.length := by omega
              have hzx : (k : Int) < xs.length := by omega
              obtain ⟨x, hx⟩ : ∃ x, xs[k]? = some x := ⟨xs[k]'(by omega), List.getElem?_eq_getElem _⟩
              obtain ⟨y, hy⟩ : ∃ y, ys[k]? = some y := ⟨ys[k], List.getElem?_eq_getElem hly⟩
              have ca : w4.cell? ⟨b1, k, none⟩ = some (.string x) := by have := HL1'.out.cells k x hx; rw [Nat.zero_add] at this; exact this
              have cb : w4.cell? ⟨b2, k, none⟩ = some (.string y) := by have := HL2.out.cells k y hy; rw [Nat.zero_add] at this; exact this
              by_cases hxy : x.data.toList = y.data.toList
              · have exy : x = y := byte_ext hxy
                subst exy
                have HT2 : Hid (xs.take (k + 1) = ys.take (k + 1)) := Lib.hid (by rw [List.take_add_one, List.take_add_one, HT.out, hx, hy])
                have hself : (x.toList == x.toList) = true := by simp
                clear hx hy hxy
                go_wp2
                go_quiet (fail)
                go_wp2
                go_roundw
                case rel => exact ⟨k + 1, by omega, by go_num, HT2.out, _, rfl⟩
                case measure => simp [Go.RowKit.intOf]; omega
              · have hne : (x.toList == y.toList) = false := by rw [Lib.toList_data, Lib.toList_data]; simpa using hxy
                have HF : Hid (NP.withinL p.data.toList q.data.toList = false) := Lib.hid (within_no_parts Hp.out Hq.out (by
                  rw [← HX.out, ← HY.out]
                  exact pre_miss hx hy hxy))
                clear hx hy hxy
                go_wp2
                go_quiet (fail)
                go_wp2
                go_ret
                exact ⟨by rw [HF.out]; rfl, by first | exact HB4.out.trans ((NA.below_drewN (Below.refl w4.heap.size w4) _).mono HB4.out.size) | exact HB4.out.trans ((NA.below_drewN (NA.below_drewN (Below.refl w4.heap.size w4) _) _).mono HB4.out.size)⟩
            · have hzy : ¬ (k : Int) < ys.length := by omega
              have HF : Hid (NP.withinL p.data.toList q.data.toList = true) := Lib.hid ((NP.within_parts Hp.out Hq.out).2 ⟨Hpq.out, by
                rw [← HX.out, ← HY.out]
                have ek : k = ys.length := by omega
                have := HT.out
                rw [ek] at this
                exact pre_full this⟩)
              go_wp2
              go_ret
              exact ⟨by rw [HF.out]; rfl, HB4.out.trans ((NA.below_drewN (Below.refl w4.heap.size w4) _).mono HB4.out.size)⟩

end RO
end Go.Proofs.YtmpmmebmhffaeaaGreatDoor.R1
