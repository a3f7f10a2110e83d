/- Texts of this seat, put one behind the other: RefName RefParts GlobSp GlobLitP RefPath RefUp GlobLitM Ref2Bad Ref2Cls Ref2Check Ref2Eq1 GlobRul Ref2Ign Ref2Runes Ref2OneP Ref2Holds. -/
import Derived.Test.YtechekdiadpmoaaDoorQRefRune
import Derived.Test.YtechekdiadpmoaaDoorQNameFn
import Derived.Test.YtechekdiadpmoaaDoorQKit
import Derived.Test.YtechekdiadpmoaaDoorQBase
import Derived.Test.YtechekdiadpmoaaDoorQGlobPlain
import Derived.Test.YtechekdiadpmoaaDoorQNameSplit
import Derived.Test.YtechekdiadpmoaaDoorQGlI
import Derived.Test.YtechekdiadpmoaaDoorQGlobRead
import Derived.Test.YtechekdiadpmoaaDoorQGlobMatch
import Derived.Test.YtechekdiadpmoaaDoorQGlobFrom
import Derived.Lib.ValidLaws
import Derived.Lib.TrimUEq
import Derived.OwnWalk
import Derived.Laws.AppendOwn
import Derived.Laws.OwnMore
import Derived.Lib.Strings
import Derived.Lib.MapLaws
import Derived.Laws.Cover1
set_option linter.all false
set_option maxRecDepth 100000
set_option maxHeartbeats 25600000
section
/- The document's answer for layer 1: the contracts of the reference's Valid and Name. -/
namespace Go.Proofs.YtechekdiadpmoaaDoor
open Go.RowKit Go.Lib
namespace RN
open RR

set_option maxRecDepth 100000 in
theorem rune_any (s : ByteArray) (i : Nat) (w : World) (hi : i < s.size) (hs : s.size ≤ 4611686018427387904) :
    Calls Tryd.prog 128 #[.string s, .int .i64 i] w (Ret (Rune s i) w) := by
  unfold Rune runeN
  have l0 := (s.get! i).toNat_lt
  by_cases a0 : (s.get! i).toNat < 128
  · rw [if_pos a0]; exact RR.one s i w hi a0
  · rw [if_neg a0]
    by_cases a1 : 194 ≤ (s.get! i).toNat ∧ (s.get! i).toNat ≤ 223
    · rw [if_pos a1]
      by_cases n1 : i + 2 ≤ s.size
      · by_cases c1 : cont (s.get! (i + 1)).toNat
        · rw [if_pos ⟨by omega, c1⟩]; exact two_ok s i w n1 hs a1.1 a1.2 c1
        · rw [if_neg (fun h => c1 h.2)]
          unfold cont at c1
          by_cases d : (s.get! (i + 1)).toNat < 128
          · exact two_bad1a s i w n1 hs a1.1 a1.2 d
          · exact two_bad1b s i w n1 hs a1.1 a1.2 (by omega)
      · rw [if_neg (fun h => n1 (by omega))]; exact short2 s i w hi hs (by omega) a1.1 a1.2
    · rw [if_neg a1]
      by_cases a2 : 224 ≤ (s.get! i).toNat ∧ (s.get! i).toNat ≤ 239
      · rw [if_pos a2]
        by_cases n1 : i + 3 ≤ s.size
        · by_cases c1 : cont (s.get! (i + 1)).toNat
          · by_cases c2 : cont (s.get! (i + 2)).toNat
            · generalize hv : (((s.get! i).toNat - 224) * 64 + (s.get! (i + 1)).toNat - 128) * 64 + (s.get! (i + 2)).toNat - 128 = v
              by_cases b1 : v < 2048
              · rw [if_neg (fun h => h.2.2.2 (.inl b1))]; exact three_low s i w n1 hs a2.1 a2.2 c1 c2 (by rw [hv]; exact b1)
              · by_cases b2 : 55296 ≤ v ∧ v ≤ 57343
                · rw [if_neg (fun h => h.2.2.2 (.inr b2))]; exact three_sur s i w n1 hs a2.1 a2.2 c1 c2 (by rw [hv]; exact b2)
                · rw [if_pos ⟨by omega, c1, c2, by omega⟩]
                  by_cases b3 : v < 55296
                  · exact three_oka s i w n1 hs a2.1 a2.2 c1 c2 (by rw [hv]; omega)
                  · exact three_okb s i w n1 hs a2.1 a2.2 c1 c2 (by rw [hv]; omega)
            · rw [if_neg (fun h => c2 h.2.2.1)]
              have c2' := c2
              unfold cont at c2'
              by_cases d : (s.get! (i + 2)).toNat < 128
              · exact three_bad2a s i w n1 hs a2.1 a2.2 c1 d
              · exact three_bad2b s i w n1 hs a2.1 a2.2 c1 (by omega)
          · rw [if_neg (fun h => c1 h.2.1)]
            unfold cont at c1
            by_cases d : (s.get! (i + 1)).toNat < 128
            · exact three_bad1a s i w n1 hs a2.1 a2.2 d
            · exact three_bad1b s i w n1 hs a2.1 a2.2 (by omega)
        · rw [if_neg (fun h => n1 (by omega))]; exact short3 s i w hi hs (by omega) a2.1 a2.2
      · rw [if_neg a2]
        by_cases a3 : 240 ≤ (s.get! i).toNat ∧ (s.get! i).toNat ≤ 244
        · rw [if_pos a3]
          by_cases n1 : i + 4 ≤ s.size
          · by_cases c1 : cont (s.get! (i + 1)).toNat
            · by_cases c2 : cont (s.get! (i + 2)).toNat
              · by_cases c3 : cont (s.get! (i + 3)).toNat
                · generalize hv : ((((s.get! i).toNat - 240) * 64 + (s.get! (i + 1)).toNat - 128) * 64 + (s.get! (i + 2)).toNat - 128) * 64 + (s.get! (i + 3)).toNat - 128 = v
                  by_cases b1 : v < 65536
                  · rw [if_neg (fun h => h.2.2.2.2 (.inl b1))]; exact four_low s i w n1 hs a3.1 a3.2 c1 c2 c3 (by rw [hv]; exact b1)
                  · by_cases b2 : 1114111 < v
                    · rw [if_neg (fun h => h.2.2.2.2 (.inr b2))]; exact four_high s i w n1 hs a3.1 a3.2 c1 c2 c3 (by rw [hv]; exact b2)
                    · rw [if_pos ⟨by omega, c1, c2, c3, by omega⟩]
                      exact four_ok s i w n1 hs a3.1 a3.2 c1 c2 c3 (by rw [hv]; omega)
                · rw [if_neg (fun h => c3 h.2.2.2.1)]
                  have c3' := c3
                  unfold cont at c3'
                  by_cases d : (s.get! (i + 3)).toNat < 128
                  · exact four_bad3a s i w n1 hs a3.1 a3.2 c1 c2 d
                  · exact four_bad3b s i w n1 hs a3.1 a3.2 c1 c2 (by omega)
              · rw [if_neg (fun h => c2 h.2.2.1)]
                have c2' := c2
                unfold cont at c2'
                by_cases d : (s.get! (i + 2)).toNat < 128
                · exact four_bad2a s i w n1 hs a3.1 a3.2 c1 d
                · exact four_bad2b s i w n1 hs a3.1 a3.2 c1 (by omega)
            · rw [if_neg (fun h => c1 h.2.1)]
              unfold cont at c1
              by_cases d : (s.get! (i + 1)).toNat < 128
              · exact four_bad1a s i w n1 hs a3.1 a3.2 d
              · exact four_bad1b s i w n1 hs a3.1 a3.2 (by omega)
          · rw [if_neg (fun h => n1 (by omega))]; exact short4 s i w hi hs (by omega) a3.1 a3.2
        · rw [if_neg a3]
          by_cases d : (s.get! i).toNat ≤ 193
          · exact bad0 s i w hi (by omega) d
          · exact bad1 s i w hi (by omega) (by omega)
/-- no rune: the decoder's own word -/
theorem rune_dec (s : ByteArray) (i : Nat) : Rune s i = if (Utf8.decode s i).1 = 65533 ∧ (Utf8.decode s i).2 = 1 then 0 else (Utf8.decode s i).2 := by
  unfold Rune
  rw [runeN_eq _ _ _ _ _ (s.get! i).toNat_lt (s.get! (i + 1)).toNat_lt (s.get! (i + 2)).toNat_lt (s.get! (i + 3)).toNat_lt, decode_at]
theorem decode_pos (s : ByteArray) (i : Nat) : 1 ≤ (Utf8.decode s i).2 := by
  rw [decode_at]
  unfold decodeN
  repeat' split
  all_goals simp
theorem rune_le (s : ByteArray) (i : Nat) (h : i < s.size) : i + Rune s i ≤ s.size := by
  unfold Rune runeN
  repeat' split
  all_goals omega
theorem valid_at (s : ByteArray) (i : Nat) (h : i < s.size) : Lib.validD (s.data.toList.drop i) = if Rune s i = 0 then false else Lib.validD (s.data.toList.drop (i + Rune s i)) := by
  have hne : s.data.toList.drop i ≠ [] := by
    intro e
    have := congrArg List.length e
    rw [List.length_drop, ← Lib.size_eq, List.length_nil] at this
    omega
  rw [Lib.validD_step _ hne, decodeL_drop, rune_dec]
  by_cases hd : (Utf8.decode s i).1 = 65533 ∧ (Utf8.decode s i).2 = 1
  · rw [if_pos hd, if_pos (by rw [if_pos hd])]
  · have hp := decode_pos s i
    rw [if_neg hd, if_neg hd, if_neg (by omega), List.drop_drop]
set_option maxHeartbeats 800000 in
theorem valid_ref (s : ByteArray) (w : World) (hs : s.size ≤ 4611686018427387904) :
    Calls Tryd.prog 98 #[.string s] w fun e w' => e = .returned (.bool (Lib.validD s.data.toList)) ∧ w = w' := by
  go_enter Tryd.func98, Tryd.ntmps98
  go_wp2
  go_loop [3] (fun i => ∃ k : Nat, k ≤ s.size ∧ i = .int .i64 k ∧ Lib.validD s.data.toList = Lib.validD (s.data.toList.drop k)) (fun i => s.size - (Go.RowKit.intOf i).toNat)
  case atStart => exact ⟨0, Nat.zero_le _, rfl, rfl⟩
  case round =>
    obtain ⟨k, hk, rfl, hv⟩ := hrel
    have HV := Lib.hid hv
    clear hv
    by_cases hlt : k < s.size
    · have hz : (k : Int) < s.size := by omega
      have hst := valid_at s k hlt
      have cR := rune_any s k w hlt hs
      have hle := rune_le s k hlt
      generalize hr : Rune s k = r at hst cR hle
      clear hr
      by_cases h0 : r = 0
      · subst h0
        rw [if_pos rfl] at hst
        have H := Lib.hid hst
        clear hst
        go_wp2_with (go_at_call 128; refine cR.mono ?_; rintro e w' ⟨rfl, rfl⟩)
        go_ret
        exact ⟨by rw [HV.out, H.out]; rfl, rfl⟩
      · rw [if_neg h0] at hst
        have H := Lib.hid hst
        clear hst
        have hb : ((r : Int) == 0) = false := beq_eq_false_iff_ne.2 (by omega)
        go_wp2_with (go_at_call 128; refine cR.mono ?_; rintro e w' ⟨rfl, rfl⟩)
        go_round
        case rel => exact ⟨k + r, by omega, by go_num, by rw [HV.out, H.out]⟩
        case measure => simp [Go.RowKit.intOf]; omega
    · have hz : ¬ (k : Int) < s.size := by omega
      go_wp2
      go_ret
      refine ⟨?_, rfl⟩
      rw [HV.out, List.drop_of_length_le (by rw [← Lib.size_eq]; omega), Lib.validD_nil]
      rfl
end RN
end Go.Proofs.YtechekdiadpmoaaDoor
end
section
/- The document's answer for layer 1: the contract of the reference's Parts: what stands between the slashes, in order; for a text of up to 1048576 bytes. -/
namespace Go.Proofs.YtechekdiadpmoaaDoor
open Go.RowKit Go.Lib
namespace RP
open NF

theorem cut_cons {u r : List UInt8} (h : 47 ∉ u) : NP.cutOn (u ++ 47 :: r) = u :: NP.cutOn r := by
  induction u with
  | nil =>
    show NP.cutOn (47 :: r) = _
    rw [NP.cutOn, if_pos rfl]
  | cons x u ih =>
    have hx : x ≠ 47 := by rintro rfl; simp at h
    have hu : 47 ∉ u := fun e => h (by simp [e])
    show NP.cutOn (x :: (u ++ 47 :: r)) = _
    rw [NP.cutOn, if_neg hx, ih hu]
theorem piece_data (s : ByteArray) (a b : Nat) : (s.extract a b).data.toList = (s.data.toList.drop a).take (b - a) := Lib.extract_data s a b
/-- The loop's state behind k bytes: what has been laid, and where the next part begins. -/
structure St (s : ByteArray) (k fr : Nat) (done : List ByteArray) : Prop where
  le : k ≤ s.size
  lo : fr ≤ k
  no : 47 ∉ (s.data.toList.drop fr).take (k - fr)
  eq : done.map (·.data.toList) ++ NP.cutOn (s.data.toList.drop fr) = NP.cutOn s.data.toList
theorem St.zero (s : ByteArray) : St s 0 0 [] := ⟨Nat.zero_le _, Nat.le_refl _, by simp, by simp⟩
theorem St.skip {s : ByteArray} {k fr : Nat} {done : List ByteArray} (h : St s k fr done) (hk : k < s.size) (hx : s[k] ≠ 47) : St s (k + 1) fr done := by
  refine ⟨hk, Nat.le_succ_of_le h.lo, ?_, h.eq⟩
  have e : k + 1 - fr = (k - fr) + 1 := by have := h.lo; omega
  rw [e, List.take_add_one]
  have hg : (s.data.toList.drop fr)[k - fr]? = some s[k] := by
    rw [List.getElem?_drop]
    have : fr + (k - fr) = k := by have := h.lo; omega
    rw [this]
    exact Lib.data_getElem? s k hk
  rw [hg]
  simp only [Option.toList_some, List.mem_append, List.mem_singleton, not_or]
  exact ⟨h.no, fun e => hx e.symm⟩
theorem St.cut {s : ByteArray} {k fr : Nat} {done : List ByteArray} (h : St s k fr done) (hk : k < s.size) (hx : s[k] = 47) : St s (k + 1) (k + 1) (done ++ [s.extract fr k]) := by
  refine ⟨hk, Nat.le_refl _, by simp, ?_⟩
  rw [← h.eq]
  have hk2 : k < s.data.toList.length := by rw [← Lib.size_eq]; exact hk
  have hv : s.data.toList[k] = 47 := by
    have := Lib.data_getElem? s k hk
    rw [List.getElem?_eq_getElem hk2, Option.some.injEq] at this
    rw [this, hx]
  have e : s.data.toList.drop fr = (s.data.toList.drop fr).take (k - fr) ++ 47 :: s.data.toList.drop (k + 1) := by
    have h1 := List.take_append_drop (k - fr) (s.data.toList.drop fr)
    rw [List.drop_drop] at h1
    have e2 : fr + (k - fr) = k := by have := h.lo; omega
    rw [e2, List.drop_eq_getElem_cons hk2, hv] at h1
    exact h1.symm
  rw [List.map_append, List.append_assoc]
  congr 1
  conv => rhs; rw [e, cut_cons h.no]
  rw [List.map_cons, List.map_nil, piece_data]
  rfl
theorem St.last {s : ByteArray} {fr : Nat} {done : List ByteArray} (h : St s s.size fr done) : (done ++ [s.extract fr s.size]).map (·.data.toList) = NP.cutOn s.data.toList := by
  rw [← h.eq, List.map_append]
  congr 1
  have e : (s.data.toList.drop fr).take (s.size - fr) = s.data.toList.drop fr := by
    rw [List.take_of_length_le]
    rw [List.length_drop, ← Lib.size_eq]
    exact Nat.le_refl _
  have hn := h.no
  rw [e] at hn
  rw [List.map_cons, List.map_nil, piece_data, e, NP.cutOn_none hn]
def PRel (s : ByteArray) (B : Nat) (w : World) (v f i : Value) (wr : World) : Prop :=
  ∃ (k fr : Nat) (done : List ByteArray), i = .int .i64 k ∧ f = .int .i64 fr ∧ wr.ownsRow B 9 1 v done.length (done.map Value.string) ∧ Below B w wr ∧ done.length ≤ k ∧
    (St s k fr done ∨ k = s.size + 1 ∧ done.map (·.data.toList) = NP.cutOn s.data.toList) ∧ (∀ x ∈ done, x.size ≤ s.size)
def PartsPost (s : ByteArray) (w : World) (e : Ending) (w' : World) : Prop := ∃ (bk c : Nat) (xs : List ByteArray), e = .returned (.slice (some ⟨bk, 0, none⟩) xs.length c) ∧ xs.length ≤ c ∧
      xs.map (·.data.toList) = NP.cutOn s.data.toList ∧ (∀ x ∈ xs, x.size ≤ s.size) ∧ Lies bk xs w' ∧ w.heap.size ≤ bk ∧ Below w.heap.size w w'
theorem infoS : (Tryd.prog.info? 9).map (fun i => (i.zero, i.size, i.bytes)) = some (some (.string ByteArray.empty), 1, 16) := by kernel_rfl
theorem post_row {s : ByteArray} {w w' : World} {v : Value} {done : List ByteArray} (ho : w'.ownsRow w.heap.size 9 1 v done.length (done.map Value.string)) (hb : Below w.heap.size w w')
    (he : done.map (·.data.toList) = NP.cutOn s.data.toList) (hs : ∀ x ∈ done, x.size ≤ s.size) : PartsPost s w (.returned v) w' := by
  have hne : done ≠ [] := by
    rintro rfl
    exact NP.cutOn_ne s.data.toList he.symm
  have hlen : 0 < done.length := List.length_pos_iff.2 hne
  have ho2 := ho
  obtain ⟨h1, h2 | ⟨g, cap, cur, rfl, hg, hh, hcap, hm, hcs, htk⟩⟩ := ho
  · omega
  · refine ⟨g, cap, done, rfl, hcap, he, hs, ⟨fun j x hj => ?_, ?_⟩, hg, hb⟩
    · have := ho2.cells (g := g) rfl j (.string x) (by rw [List.getElem?_map, hj]; rfl)
      rw [← this]
      have e : (⟨g, 0, none⟩ : Addr).add j = ⟨g, 0 + j, none⟩ := by
        simp only [Addr.add]
        split <;> simp_all
      rw [e]
    · exact (Array.getElem?_eq_some_iff.1 hh).1
theorem one_new (w : World) (x : Value) (t : TypeId) : ∀ (j : Nat) (u : Value), [x][j]? = some u → (w.alloc (.cells #[x] t)).cell? ((⟨w.heap.size, 0, none⟩ : Addr).add j) = some u := by
  intro j u hj
  match j with
  | 0 =>
    simp at hj
    subst hj
    have e : (⟨w.heap.size, 0, none⟩ : Addr).add 0 = ⟨w.heap.size, 0, none⟩ := rfl
    rw [e, World.cell?_alloc_at _ _ _ _ rfl]
    rfl
  | j + 1 => simp at hj
set_option maxRecDepth 100000 in
set_option maxHeartbeats 1600000 in
theorem parts_any (s : ByteArray) (w : World) (hs : s.size ≤ 1048576) :
    Calls Tryd.prog 58 #[.string s] w (PartsPost s w) := by
  obtain ⟨i0, hi, hz0, hz1, hz2⟩ := info_parts infoS
  go_enter Tryd.func58, Tryd.ntmps58
  go_wp2
  go_loopw [3, 4, 5] (PRel s w.heap.size w) (fun _ _ i _ => s.size + 1 - (Go.RowKit.intOf i).toNat)
  case atStart => exact ⟨0, 0, [], rfl, rfl, World.ownsRow_nil _ _ _ _, Below.refl _ _, Nat.le_refl _, .inl (St.zero s), by simp⟩
  case round =>
    obtain ⟨k, fr, done, rfl, rfl, hown, hb, hdl, hst, hsz⟩ := hrel
    have HO := Lib.hid hown
    have HB := Lib.hid hb
    have HS := Lib.hid hsz
    clear hown hb hsz
    rcases hst with hst | ⟨hk, he⟩
    · have hk := hst.le
      have hfr := hst.lo
      have HT := Lib.hid hst
      clear hst
      have hkz : (k : Int) ≤ s.size := by omega
      have hfz : (fr : Int) ≤ k := by omega
      have hbs : w.heap.size ≤ wr.heap.size := HB.out.size
      have hall : ∀ x ∈ done ++ [s.extract fr k], x.size ≤ s.size := by
        intro x hx
        rcases List.mem_append.1 hx with hx | hx
        · exact HS.out x hx
        · simp only [List.mem_singleton] at hx
          subst hx
          rw [ByteArray.size_extract]; omega
      have Hall := Lib.hid hall
      clear hall
      by_cases hlast : k = s.size
      · have hbz : ((k : Int) == (s.size : Int)) = true := beq_iff_eq.2 (by omega)
        have HE : Hid ((done ++ [s.extract fr k]).map (·.data.toList) = NP.cutOn s.data.toList) := Lib.hid (by rw [hlast]; rw [hlast] at HT; exact HT.out.last)
        have Hl := Lib.hid hlast
        clear hlast
        go_wp2_with (first | (at_builtin; refine wpList_append_own _ rfl _ _ 84 rfl w.heap.size 9 i0 (.string ByteArray.empty) 1 16 Tryd.underlying84 hi hz0 hz1 hz2 rfl (by decide) _ _ _ rfl (HO.out.alloc _) ⟨wr.heap.size, 0, none⟩ 1 1 [.string (s.extract fr k)] rfl rfl (one_new _ _ _) (fun x hx => by simp at hx; subst hx; rfl) (by unfold maxLen; omega) (by omega) (by simp; omega) ?_; intro v' w3 hown' hgrow3 hnil3))
        have hown2 : w3.ownsRow w.heap.size 9 1 v' (done ++ [s.extract fr k]).length ((done ++ [s.extract fr k]).map Value.string) := by
          rw [List.length_append, List.map_append]; exact hown'
        have HO2 := Lib.hid hown2
        have HB2 := Lib.hid ((HB.out.alloc hbs (.cells #[.string (s.extract fr k)] 9)).grown hgrow3 (by simp; omega) (fun j hj => (HO.out.lt j hj).1))
        clear hown' hgrow3 hnil3 hown2
        go_wp2
        go_roundw
        case rel => exact ⟨k + 1, k + 1, done ++ [s.extract fr k], by go_num, by go_num, HO2.out, HB2.out, by simp; omega, .inr ⟨by rw [Hl.out], HE.out⟩, Hall.out⟩
        case measure => simp [Go.RowKit.intOf]; omega
      · have hbz : ((k : Int) == (s.size : Int)) = false := beq_eq_false_iff_ne.2 (by omega)
        have hlt : k < s.size := by omega
        have hkz2 : (k : Int) < s.size := by omega
        by_cases hx : s[k] = 47
        · have hcb : ((((s[k]).toNat : Nat) : Int) == 47) = true := by rw [hx]; rfl
          have HE := Lib.hid (HT.out.cut hlt hx)
          clear hx hlast
          go_wp2_with (first | (at_builtin; refine wpList_append_own _ rfl _ _ 84 rfl w.heap.size 9 i0 (.string ByteArray.empty) 1 16 Tryd.underlying84 hi hz0 hz1 hz2 rfl (by decide) _ _ _ rfl (HO.out.alloc _) ⟨wr.heap.size, 0, none⟩ 1 1 [.string (s.extract fr k)] rfl rfl (one_new _ _ _) (fun x hx => by simp at hx; subst hx; rfl) (by unfold maxLen; omega) (by omega) (by simp; omega) ?_; intro v' w3 hown' hgrow3 hnil3))
          have hown2 : w3.ownsRow w.heap.size 9 1 v' (done ++ [s.extract fr k]).length ((done ++ [s.extract fr k]).map Value.string) := by
            rw [List.length_append, List.map_append]; exact hown'
          have HO2 := Lib.hid hown2
          have HB2 := Lib.hid ((HB.out.alloc hbs (.cells #[.string (s.extract fr k)] 9)).grown hgrow3 (by simp; omega) (fun j hj => (HO.out.lt j hj).1))
          clear hown' hgrow3 hnil3 hown2
          go_wp2
          go_roundw
          case rel => exact ⟨k + 1, k + 1, done ++ [s.extract fr k], by go_num, by go_num, HO2.out, HB2.out, by simp; omega, .inl HE.out, Hall.out⟩
          case measure => simp [Go.RowKit.intOf]; omega
        · have hcb : ((((s[k]).toNat : Nat) : Int) == 47) = false := by
            apply beq_eq_false_iff_ne.2
            intro e
            apply hx
            apply UInt8.toNat_inj.1
            show _ = 47
            omega
          have HE := Lib.hid (HT.out.skip hlt hx)
          clear hx hlast
          go_wp2
          go_roundw
          case rel => exact ⟨k + 1, fr, done, by go_num, rfl, HO.out, HB.out, by omega, .inl HE.out, HS.out⟩
          case measure => simp [Go.RowKit.intOf]; omega
    · have hkz : ¬ (k : Int) ≤ s.size := by omega
      have HF := Lib.hid (post_row HO.out HB.out he HS.out)
      clear he
      go_wp2
      go_ret
      exact HF.out
end RP
end Go.Proofs.YtechekdiadpmoaaDoor
end
section
/- The four runes that are more than themselves in a pattern. -/
namespace Go.Proofs.YtechekdiadpmoaaDoor.GS
def special (r : Int) : Bool := decide (r = 42 ∨ r = 63 ∨ r = 91 ∨ r = 92)
end Go.Proofs.YtechekdiadpmoaaDoor.GS
end
section
/- Literal: the path with a backslash ahead of each byte that would be more than itself; and what it is of bytes. -/
namespace Go.Proofs.YtechekdiadpmoaaDoor
open Go.RowKit Go.Lib
namespace LitN
open NF
def spB (b : UInt8) : Bool := decide (b = 42 ∨ b = 63 ∨ b = 91 ∨ b = 92)
def litL (l : List UInt8) : List UInt8 := l.flatMap fun b => if spB b = true then [92, b] else [b]
theorem litL_app (a b : List UInt8) : litL (a ++ b) = litL a ++ litL b := by unfold litL; rw [List.flatMap_append]
theorem litL_len (l : List UInt8) : (litL l).length ≤ 2 * l.length := by
  induction l with
  | nil => simp [litL]
  | cons x l ih =>
    have h : litL (x :: l) = (if spB x = true then [92, x] else [x]) ++ litL l := by simp [litL]
    rw [h, List.length_append, List.length_cons]
    split <;> simp <;> omega
/-- No byte of it is special: it is itself. -/
theorem litL_same {l : List UInt8} (h : ∀ b ∈ l, 128 ≤ b.toNat) : litL l = l := by
  induction l with
  | nil => rfl
  | cons x l ih =>
    have hx : spB x = false := by
      have h1 := h x (by simp)
      unfold spB
      simp only [decide_eq_false_iff_not]
      rintro (rfl | rfl | rfl | rfl) <;> simp at h1
    have e : litL (x :: l) = (if spB x = true then [92, x] else [x]) ++ litL l := by simp [litL]
    rw [e, hx, ih (fun b hb => h b (by simp [hb]))]
    rfl
theorem encode_high (r : Int) (h : 128 ≤ r) : ∀ b ∈ Lib.encodeRune r, 128 ≤ b.toNat := by
  intro b hb
  unfold Lib.encodeRune at hb
  obtain ⟨x, hx, rfl⟩ := List.mem_map.1 hb
  have hx2 : 128 ≤ x ∧ x < 256 := by
    have h2 := Lib.encodeRuneZ_byte r x hx
    refine ⟨?_, h2.2⟩
    unfold Lib.encodeRuneZ at hx
    rw [if_neg (by omega)] at hx
    split at hx
    · simp at hx; omega
    · split at hx
      · simp at hx; omega
      · split at hx
        · simp at hx; omega
        · simp at hx; omega
  obtain ⟨n, rfl⟩ := Int.eq_ofNat_of_zero_le (by omega : 0 ≤ x)
  simp
  omega
/-- What one rune of a valid text adds. -/
theorem lit_rune (l : List UInt8) (hne : l ≠ []) (hv : Lib.validD l = true) :
    Lib.validD (l.drop (Lib.decodeL l).2) = true ∧ Lib.encodeRune ((Lib.decodeL l).1 : Int) = l.take (Lib.decodeL l).2 ∧ Lib.validRune ((Lib.decodeL l).1 : Int) = true ∧
    litL (l.take (Lib.decodeL l).2) = (if GS.special ((Lib.decodeL l).1 : Int) = true then [92] else []) ++ l.take (Lib.decodeL l).2 := by
  rw [Lib.validD_step l hne] at hv
  split at hv
  · cases hv
  · rename_i hnb
    have hed := Lib.encode_decode l hne hnb
    have hl : 0 < l.length := List.length_pos_iff.2 hne
    have hvr : Lib.validRune ((Lib.decodeL l).1 : Int) = true := by
      rw [Lib.decodeL_N] at hnb ⊢
      unfold Lib.validRune
      have k0 := (l.getD 0 0).toNat_lt
      have k1 := (l.getD 1 0).toNat_lt
      have k2 := (l.getD 2 0).toNat_lt
      have k3 := (l.getD 3 0).toNat_lt
      simp only [decide_eq_true_eq]
      rcases Lib.decodeN_shape l.length (l.getD 0 0).toNat (l.getD 1 0).toNat (l.getD 2 0).toNat (l.getD 3 0).toNat with ⟨c, e⟩ | ⟨c1, c2, c3, cv, e⟩ | ⟨c1, c2, c3, c4, cv, cs, e⟩ | ⟨c1, c2, c3, c4, c5, cv, cw, e⟩ | e
      · rw [e]; dsimp only; omega
      · rw [e]; dsimp only; omega
      · rw [e]; dsimp only; omega
      · rw [e]; dsimp only; omega
      · rw [e] at hnb; exact absurd ⟨rfl, rfl⟩ hnb
    refine ⟨hv, hed, hvr, ?_⟩
    rw [← hed]
    generalize (Lib.decodeL l).1 = r at *
    by_cases h1 : r < 128
    · have e1 : Lib.encodeRune (r : Int) = [r.toUInt8] := by
        unfold Lib.encodeRune
        rw [Lib.encodeRuneZ_one (by omega) (by omega)]
        simp
      rw [e1]
      have key : ∀ k : Nat, k < 128 → litL [k.toUInt8] = (if GS.special (k : Int) = true then [92] else []) ++ [k.toUInt8] := by decide
      exact key r h1
    · have hb : ∀ b ∈ Lib.encodeRune (r : Int), 128 ≤ b.toNat := encode_high _ (by omega)
      have hs : GS.special (r : Int) = false := by unfold GS.special; simp; omega
      rw [litL_same hb, hs]
      rfl
theorem builder_below {T e : TypeId} {B b : Nat} {bs : List Value} {W W' : World} (h : Lib.IsBuilderF T e B b bs W) (hb : Below W.heap.size W W') : Lib.IsBuilderF T e B b bs W' := by
  have key : ∀ p, Lib.BuilderAtF T e B b p bs W → Lib.BuilderAtF T e B b p bs W' := by
    rintro p ⟨hB, v, hbk, hown, hne⟩
    have hlt : b < W.heap.size := (Array.getElem?_eq_some_iff.1 hbk).1
    refine ⟨hB, v, by rw [hb.block b hlt]; exact hbk, ⟨hown.1, ?_⟩, hne⟩
    rcases hown.2 with hn | ⟨g, cap, cur, fz, hv, hg, hgb, rest⟩
    · exact .inl hn
    · have hgl : g < W.heap.size := (Array.getElem?_eq_some_iff.1 hgb).1
      exact .inr ⟨g, cap, cur, fz, hv, hg, by rw [hb.block g hgl]; exact hgb, rest⟩
  exact h.elim (fun x => .inl (key _ x)) (fun x => .inr (key _ x))
theorem decodeN_more (n m b0 b1 b2 b3 c0 c1 c2 c3 : Nat) (h0 : c0 = b0) (hm : (Lib.decodeN n b0 b1 b2 b3).2 ≤ m) (h1 : 1 < (Lib.decodeN n b0 b1 b2 b3).2 → c1 = b1) (h2 : 2 < (Lib.decodeN n b0 b1 b2 b3).2 → c2 = b2) (h3 : 3 < (Lib.decodeN n b0 b1 b2 b3).2 → c3 = b3) (hv : ¬ ((Lib.decodeN n b0 b1 b2 b3).1 = 65533 ∧ (Lib.decodeN n b0 b1 b2 b3).2 = 1)) :
    Lib.decodeN m c0 c1 c2 c3 = Lib.decodeN n b0 b1 b2 b3 := by
  subst h0
  rcases Lib.decodeN_shape n c0 b1 b2 b3 with ⟨c, e⟩ | ⟨k1, k2, k3, kv, e⟩ | ⟨k1, k2, k3, k4, kv, ks, e⟩ | ⟨k1, k2, k3, k4, k5, kv, kw, e⟩ | e
  · rw [e]
    unfold Lib.decodeN
    rw [if_pos c]
  · rw [e] at hm h1
    obtain rfl := h1 (by show 1 < 2; omega)
    rw [e]
    unfold Lib.decodeN
    rw [if_neg (by omega), if_pos ⟨k1, by exact hm, k3⟩, if_pos kv]
  · rw [e] at hm h1 h2
    obtain rfl := h1 (by show 1 < 3; omega)
    obtain rfl := h2 (by show 2 < 3; omega)
    have hm2 : 3 ≤ m := hm
    rw [e]
    unfold Lib.decodeN
    rw [if_neg (by omega), if_neg (by omega), if_pos ⟨k1, ⟨by omega, k3⟩, by omega, k4⟩, if_pos ⟨kv, by omega⟩]
  · rw [e] at hm h1 h2 h3
    obtain rfl := h1 (by show 1 < 4; omega)
    obtain rfl := h2 (by show 2 < 4; omega)
    obtain rfl := h3 (by show 3 < 4; omega)
    have hm2 : 4 ≤ m := hm
    rw [e]
    unfold Lib.decodeN
    rw [if_neg (by omega), if_neg (by omega), if_neg (by omega), if_pos ⟨k1, ⟨by omega, k3⟩, ⟨by omega, k4⟩, by omega, k5⟩, if_pos ⟨kv, by omega⟩]
  · rw [e] at hv
    exact absurd ⟨rfl, rfl⟩ hv
theorem getD_app (u t : List UInt8) (i : Nat) (h : i < u.length) : (u ++ t).getD i 0 = u.getD i 0 := by
  rw [List.getD_eq_getElem?_getD, List.getD_eq_getElem?_getD, List.getElem?_append_left h]
theorem getD_same (u t : List UInt8) (k i : Nat) (hk : k ≤ u.length) (h : i < k) : (u.take k ++ t).getD i 0 = u.getD i 0 := by
  rw [getD_app _ _ _ (by rw [List.length_take]; omega), List.getD_eq_getElem?_getD, List.getD_eq_getElem?_getD, List.getElem?_take_of_lt h]
/-- Just the bytes of the rune decide it. -/
theorem decode_pre (u t : List UInt8) (hne : u ≠ []) (hv : ¬ ((Lib.decodeL u).1 = 65533 ∧ (Lib.decodeL u).2 = 1)) : Lib.decodeL (u.take (Lib.decodeL u).2 ++ t) = Lib.decodeL u := by
  have hle := Lib.decodeL_le u hne
  have hw := Lib.decodeL_width u
  generalize hk : (Lib.decodeL u).2 = k at hle hw ⊢
  rw [Lib.decodeL_N] at hv hk
  rw [Lib.decodeL_N, Lib.decodeL_N u]
  exact decodeN_more u.length _ _ _ _ _ _ _ _ _ (by rw [getD_same u t k 0 hle (by omega)]) (by rw [hk, List.length_append, List.length_take]; omega) (fun h => by rw [hk] at h; rw [getD_same u t k 1 hle h]) (fun h => by rw [hk] at h; rw [getD_same u t k 2 hle h]) (fun h => by rw [hk] at h; rw [getD_same u t k 3 hle h]) hv
theorem decode_app (u t : List UInt8) (hne : u ≠ []) (hv : ¬ ((Lib.decodeL u).1 = 65533 ∧ (Lib.decodeL u).2 = 1)) : Lib.decodeL (u ++ t) = Lib.decodeL u := by
  have h := decode_pre u (u.drop (Lib.decodeL u).2 ++ t) hne hv
  rw [← List.append_assoc, List.take_append_drop] at h
  exact h
theorem valid_app : ∀ (n : Nat) (u t : List UInt8), u.length ≤ n → Lib.validD u = true → Lib.validD (u ++ t) = Lib.validD t
  | 0, u, t, h, _ => by
    have : u = [] := List.eq_nil_of_length_eq_zero (by omega)
    subst this
    rfl
  | n + 1, u, t, h, hv => by
    by_cases hne : u = []
    · subst hne; rfl
    · have hne2 : u ++ t ≠ [] := by simp [hne]
      have hw := Lib.decodeL_width u
      have hle := Lib.decodeL_le u hne
      rw [Lib.validD_step u hne] at hv
      split at hv
      · cases hv
      · rename_i hb
        have hl : 0 < u.length := List.length_pos_iff.2 hne
        rw [Lib.validD_step _ hne2, decode_app u t hne hb, if_neg hb, List.drop_append_of_le_length hle]
        exact valid_app n _ t (by rw [List.length_drop]; omega) hv
theorem valid_join : ∀ ls : List (List UInt8), (∀ u ∈ ls, Lib.validD u = true) → Lib.validD (Lib.join ls [47]) = true
  | [], _ => rfl
  | [u], h => by
    rw [Lib.join_one]
    exact h u (by simp)
  | u :: v :: ls, h => by
    have ih := valid_join (v :: ls) (fun x hx => h x (by simp [hx]))
    have e : Lib.joinTail [47] (v :: ls) = 47 :: Lib.join (v :: ls) [47] := by rw [Lib.join_cons]; simp [Lib.joinTail]
    rw [Lib.join_cons, valid_app _ u _ (Nat.le_refl _) (h u (by simp)), e, Lib.validD_cons _ _ (by decide)]
    exact ih
theorem name_valid {l : List UInt8} (h : NP.nameL l = true) : Lib.validD l = true := by
  unfold NP.nameL at h
  simp only [Bool.and_eq_true] at h
  exact h.1.2
theorem path_valid {l : List UInt8} (h : NP.pathL l = true) : Lib.validD l = true := by
  unfold NP.pathL at h
  simp only [Bool.and_eq_true] at h
  have h2 := h.2
  rw [NP.split_eq] at h2
  have := valid_join (NP.cutOn l) (fun u hu => name_valid (List.all_eq_true.1 h2 u hu))
  rw [NP.cutOn_join] at this
  exact this
end LitN
end Go.Proofs.YtechekdiadpmoaaDoor
end
section
/- The document's answer for layer 1: the contracts of the reference's Name, Path, Split, Parent, Base, Texts, for texts of up to 1048576 bytes. -/
namespace Go.Proofs.YtechekdiadpmoaaDoor
open Go.RowKit Go.Lib
namespace RQ
open NF NC RP RN

theorem noneOf_snoc {l : List UInt8} {k : Nat} {x : UInt8} (h : NP.noneOf (l.take k) = true) (hx : l[k]? = some x) (h1 : x ≠ 47) (h2 : x ≠ 0) : NP.noneOf (l.take (k + 1)) = true := by
  rw [List.take_add_one, hx]
  unfold NP.noneOf at h ⊢
  simp only [Bool.not_eq_true', Bool.or_eq_false_iff, Option.toList_some] at h ⊢
  refine ⟨?_, ?_⟩
  · rw [List.contains_append, h.1]; simp [Ne.symm h1]
  · rw [List.contains_append, h.2]; simp [Ne.symm h2]
theorem noneOf_hit {l : List UInt8} {k : Nat} {x : UInt8} (hx : l[k]? = some x) (h : x = 47 ∨ x = 0) : NP.noneOf l = false := by
  unfold NP.noneOf
  have hm := List.mem_of_getElem? hx
  rcases h with rfl | rfl
  · simp [hm]
  · simp [hm]
def RetB (b : Bool) (w : World) (e : Ending) (w' : World) : Prop := e = .returned (.bool b) ∧ w = w'
set_option maxRecDepth 100000 in
set_option maxHeartbeats 800000 in
theorem rname_loop (s : ByteArray) (w : World) (hs : s.size ≤ 64) (h1 : s.toList.isEmpty = false) (h3 : (s.toList == [46]) = false) (h4 : (s.toList == [46, 46]) = false) :
    Calls Tryd.prog 78 #[.string s] w (RetB (NP.nameL s.data.toList) w) := by
  have Hg := Lib.hid (good_name h1 (by omega) h3 h4)
  have hp : 0 < s.size := by
    rw [Lib.size_eq, ← Lib.toList_data]
    apply List.length_pos_iff.2
    intro e; rw [e] at h1; simp at h1
  have hz1 : ¬ (s.size : Int) < 1 := by omega
  have hd1 : decide ((s.size : Int) < 1) = false := decide_eq_false hz1
  have hz2 : ¬ (64 : Int) < s.size := by omega
  have hd2 : decide ((64 : Int) < s.size) = false := decide_eq_false hz2
  have cV := valid_ref s w (by omega)
  clear hp h1
  cases hv : Lib.validD s.data.toList
  · have Hv := Lib.hid hv
    rw [hv] at cV
    clear hv
    go_enter Tryd.func78, Tryd.ntmps78
    go_wp2_with (go_at_call 98; refine cV.mono ?_; rintro e w' ⟨rfl, rfl⟩)
    go_ret
    exact ⟨by rw [Hg.out, Hv.out]; rfl, rfl⟩
  · have Hv := Lib.hid hv
    rw [hv] at cV
    clear hv
    go_enter Tryd.func78, Tryd.ntmps78
    go_wp2_with (go_at_call 98; refine cV.mono ?_; rintro e w' ⟨rfl, rfl⟩)
    go_loop [3] (fun i => ∃ k : Nat, k ≤ s.size ∧ i = .int .i64 k ∧ NP.noneOf (s.data.toList.take k) = true) (fun i => s.size - (Go.RowKit.intOf i).toNat)
    case atStart => exact ⟨0, Nat.zero_le _, rfl, rfl⟩
    case round =>
      obtain ⟨k, hk, rfl, hn⟩ := hrel
      have HN := Lib.hid hn
      clear hn
      by_cases hlt : k < s.size
      · have hz : (k : Int) < s.size := by omega
        have Hx := Lib.hid (Lib.data_getElem? s k hlt)
        by_cases hx0 : s[k] = 0
        · have hb : ((((s[k]).toNat : Nat) : Int) == 0) = true := by rw [hx0]; rfl
          have HF := Lib.hid (noneOf_hit Hx.out (.inr hx0))
          clear hx0
          go_wp2
          go_ret
          exact ⟨by rw [Hg.out, HF.out]; simp, rfl⟩
        · have hb : ((((s[k]).toNat : Nat) : Int) == 0) = false := by
            apply beq_eq_false_iff_ne.2
            intro e; apply hx0; apply UInt8.toNat_inj.1; show _ = 0; omega
          by_cases hx7 : s[k] = 47
          · have hb2 : ((((s[k]).toNat : Nat) : Int) == 47) = true := by rw [hx7]; rfl
            have HF := Lib.hid (noneOf_hit Hx.out (.inl hx7))
            clear hx0 hx7
            go_wp2
            go_ret
            exact ⟨by rw [Hg.out, HF.out]; simp, rfl⟩
          · have hb2 : ((((s[k]).toNat : Nat) : Int) == 47) = false := by
              apply beq_eq_false_iff_ne.2
              intro e; apply hx7; apply UInt8.toNat_inj.1; show _ = 47; omega
            have HF := Lib.hid (noneOf_snoc HN.out Hx.out hx7 hx0)
            clear hx0 hx7
            go_wp2
            go_round
            case rel => exact ⟨k + 1, by omega, by go_num, HF.out⟩
            case measure => simp [Go.RowKit.intOf]; omega
      · have hz : ¬ (k : Int) < s.size := by omega
        have HF : Hid (NP.noneOf s.data.toList = true) := Lib.hid (by have := HN.out; rw [List.take_of_length_le (by rw [← Lib.size_eq]; omega)] at this; exact this)
        go_wp2
        go_ret
        exact ⟨by rw [Hg.out, HF.out, Hv.out]; rfl, rfl⟩
set_option maxRecDepth 100000 in
set_option maxHeartbeats 800000 in
theorem rname_any (s : ByteArray) (w : World) (hs : s.size ≤ 4611686018427387904) :
    Calls Tryd.prog 78 #[.string s] w (RetB (NP.nameL s.data.toList) w) := by
  by_cases h0 : s.toList = []
  · have HF := Lib.hid (bad_name (s := s) (.inl h0))
    have hz : (s.size : Int) < 1 := by
      have e : s.size = 0 := by rw [Lib.size_eq, ← Lib.toList_data, h0]; rfl
      omega
    clear h0
    go_enter Tryd.func78, Tryd.ntmps78
    go_wp2
    go_ret
    exact ⟨by rw [HF.out]; rfl, rfl⟩
  · have h1 : s.toList.isEmpty = false := by simpa using h0
    have hp : 0 < s.size := by
      rw [Lib.size_eq, ← Lib.toList_data]
      exact List.length_pos_iff.2 h0
    have hz1 : ¬ (s.size : Int) < 1 := by omega
    have hd1 : decide ((s.size : Int) < 1) = false := decide_eq_false hz1
    by_cases h2 : s.size ≤ 64
    · by_cases h3 : s.toList = [46]
      · have HF := Lib.hid (bad_name (s := s) (.inr (.inr (.inl h3))))
        have hz2 : ¬ (64 : Int) < s.size := by omega
        have hd2 : decide ((64 : Int) < s.size) = false := decide_eq_false hz2
        have hb : (s.toList == [46]) = true := by rw [h3]; rfl
        clear h0
        go_enter Tryd.func78, Tryd.ntmps78
        go_wp2
        go_ret
        exact ⟨by rw [HF.out]; rfl, rfl⟩
      · have hb3 : (s.toList == [46]) = false := by simpa using h3
        by_cases h4 : s.toList = [46, 46]
        · have HF := Lib.hid (bad_name (s := s) (.inr (.inr (.inr h4))))
          have hz2 : ¬ (64 : Int) < s.size := by omega
          have hd2 : decide ((64 : Int) < s.size) = false := decide_eq_false hz2
          have hb : (s.toList == [46, 46]) = true := by rw [h4]; rfl
          clear h0 h3 h4
          go_enter Tryd.func78, Tryd.ntmps78
          go_wp2
          go_ret
          exact ⟨by rw [HF.out]; rfl, rfl⟩
        · exact rname_loop s w h2 h1 hb3 (by simpa using h4)
    · have HF := Lib.hid (bad_name (s := s) (.inr (.inl (by omega))))
      have hz2 : (64 : Int) < s.size := by omega
      clear h0
      go_enter Tryd.func78, Tryd.ntmps78
      go_wp2
      go_ret
      exact ⟨by rw [HF.out]; rfl, rfl⟩

/- Path -/
theorem path_few {l : List UInt8} (h : (NP.cutOn l).length ≤ 16) (h4 : l.length ≤ 400) : NP.pathL l = NP.allL (NP.cutOn l) := by
  have hc := NP.cutOn_length l
  unfold NP.pathL
  rw [decide_eq_true h4, decide_eq_true (by omega), NP.split_eq]
  simp
theorem path_many {l : List UInt8} (h : 16 < (NP.cutOn l).length) : NP.pathL l = false := by
  have hc := NP.cutOn_length l
  unfold NP.pathL
  rw [decide_eq_false (p := l.count 47 < 16) (by omega)]
  simp
set_option maxRecDepth 100000 in
set_option maxHeartbeats 1600000 in
theorem rpath_any (s : ByteArray) (w : World) (hs : s.size ≤ 1048576) :
    Calls Tryd.prog 57 #[.string s] w fun e w' => e = .returned (.bool (NP.pathL s.data.toList)) ∧ Below w.heap.size w w' := by
  have cP := parts_any s w hs
  go_enter Tryd.func57, Tryd.ntmps57
  go_wp2_with fail
  refine cP.mono ?_
  rintro e w1 ⟨bk, c, xs, rfl, hc, hx, hsz, hl, hbk, hb⟩
  have Hx := Lib.hid hx
  have Hsz := Lib.hid hsz
  have Hl := Lib.hid hl
  have Hb := Lib.hid hb
  have hxl : xs.length = (NP.cutOn s.data.toList).length := by rw [← hx, List.length_map]
  have hcl := NP.cutOn_length s.data.toList
  have hct : s.data.toList.count 47 ≤ s.data.toList.length := List.count_le_length
  have hle : xs.length ≤ 1048577 := by rw [Lib.size_eq] at hs; omega
  have Hxl := Lib.hid hxl
  clear hx hsz hl hb cP hcl hct hxl
  by_cases h4 : s.size ≤ 400
  · have hz4 : ¬ (400 : Int) < s.size := by omega
    have hd4 : decide ((400 : Int) < s.size) = false := decide_eq_false hz4
    by_cases h16 : xs.length ≤ 16
    · have hz16 : ¬ (16 : Int) < xs.length := by omega
      have hd16 : decide ((16 : Int) < xs.length) = false := decide_eq_false hz16
      have HP := Lib.hid (path_few (l := s.data.toList) (by rw [← Hxl.out]; exact h16) (by rw [← Lib.size_eq]; exact h4))
      go_wp2
      go_loop [4] (fun i => ∃ k : Nat, k ≤ xs.length ∧ i = .int .i64 k ∧ NP.allL ((xs.take k).map (·.data.toList)) = true) (fun i => xs.length - (Go.RowKit.intOf i).toNat)
      case atStart => exact ⟨0, Nat.zero_le _, rfl, rfl⟩
      case round =>
        obtain ⟨k, hk, rfl, ha⟩ := hrel
        have Ha := Lib.hid ha
        clear ha
        by_cases hlt : k < xs.length
        · obtain ⟨x, hx⟩ : ∃ x, xs[k]? = some x := ⟨xs[k], List.getElem?_eq_getElem hlt⟩
          have hz : (k : Int) < xs.length := by omega
          have hcell : w1.cell? ⟨bk, k, none⟩ = some (.string x) := by have := Hl.out.cells k x hx; rw [Nat.zero_add] at this; exact this
          have cN := rname_any x w1 (by have := Hsz.out x (List.mem_of_getElem? hx); omega)
          have HX := Lib.hid hx
          clear hx
          cases hn : NP.nameL x.data.toList
          · rw [hn] at cN
            have HM := Lib.hid (all_miss HX.out hn)
            clear hn
            go_wp2_with (go_at_call 78; refine cN.mono ?_; rintro e w' ⟨rfl, rfl⟩)
            go_ret
            exact ⟨by rw [HP.out, ← Hx.out, HM.out]; rfl, Hb.out⟩
          · rw [hn] at cN
            have HM := Lib.hid (all_snoc Ha.out HX.out hn)
            clear hn
            go_wp2_with (go_at_call 78; refine cN.mono ?_; rintro e w' ⟨rfl, rfl⟩)
            go_round
            case rel => exact ⟨k + 1, by omega, by go_num, HM.out⟩
            case measure => simp [Go.RowKit.intOf]; omega
        · have hz : ¬ (k : Int) < xs.length := by omega
          have HM : Hid (NP.allL (xs.map (·.data.toList)) = true) := Lib.hid (by have := Ha.out; rw [List.take_of_length_le (by omega)] at this; exact this)
          go_wp2
          go_ret
          exact ⟨by rw [HP.out, ← Hx.out, HM.out]; rfl, Hb.out⟩
    · have hz16 : (16 : Int) < xs.length := by omega
      have HP := Lib.hid (path_many (l := s.data.toList) (by rw [← Hxl.out]; omega))
      go_wp2
      go_ret
      exact ⟨by rw [HP.out]; rfl, Hb.out⟩
  · have hz4 : (400 : Int) < s.size := by omega
    have HP := Lib.hid (path_long (s := s) (by omega))
    go_wp2
    go_ret
    exact ⟨by rw [HP.out]; rfl, Hb.out⟩

/- Split -/
end RQ
end Go.Proofs.YtechekdiadpmoaaDoor
end
section
/- The document's answer for layer 1: the contracts of the reference's Parent and Base, for texts of up to 1048576 bytes. -/
namespace Go.Proofs.YtechekdiadpmoaaDoor
open Go.RowKit Go.Lib
namespace RT
open NF NC RP RN RQ

/-- The last of the parts is what stands behind the last slash. -/
theorem last_part (l : List UInt8) : (NP.cutOn l).getLast? = some (NP.lastL l) := by
  rcases NP.parts l with h | ⟨u, t, rfl, h⟩
  · rw [NP.cutOn_none h, NP.lastL_none h]; rfl
  · rw [NP.cutOn_snoc h, NP.lastL_snoc h]; simp

theorem lies_last {s : ByteArray} {xs : List ByteArray} {bk n : Nat} {w : World} (h : xs.map (·.data.toList) = NP.cutOn s.data.toList) (hn : xs.length = n + 1) (hl : Lies bk xs w) :
    ∃ v : ByteArray, v.data.toList = NP.lastL s.data.toList ∧ w.cell? ⟨bk, n, none⟩ = some (.string v) ∧ v ∈ xs := by
  obtain ⟨x, hx⟩ : ∃ x, xs[n]? = some x := ⟨xs[n]'(by omega), List.getElem?_eq_getElem _⟩
  have h1 := last_part s.data.toList
  rw [← h, List.getLast?_map, List.getLast?_eq_getElem?, hn, Nat.add_sub_cancel, hx] at h1
  have := hl.cells n x hx
  rw [Nat.zero_add] at this
  exact ⟨x, by simpa using h1, this, List.mem_of_getElem? hx⟩
theorem up_take (l : List UInt8) (h : 2 ≤ (NP.cutOn l).length) : (NP.lastL l).length + 1 ≤ l.length ∧ NP.upL l = l.take (l.length - (NP.lastL l).length - 1) := by
  rcases NP.parts l with h0 | ⟨u, t, rfl, h0⟩
  · rw [NP.cutOn_none h0] at h; simp at h
  · rw [NP.lastL_snoc h0, NP.upL_snoc h0]
    have e : (u ++ 47 :: t).length - t.length - 1 = u.length := by simp; omega
    rw [e]
    exact ⟨by simp, by simp⟩
theorem up_one (l : List UInt8) (h : (NP.cutOn l).length < 2) : NP.upL l = [] := by
  have := NP.cutOn_length l
  apply NP.upL_none
  intro hm
  have := List.count_pos_iff.2 hm
  omega

end RT
end Go.Proofs.YtechekdiadpmoaaDoor
end
section
/- Literal as a pattern: what it reads, and what it matches. -/
namespace Go.Proofs.YtechekdiadpmoaaDoor
open Go.RowKit Go.Lib
namespace LitN
open GP GI
theorem litL_cons (x : UInt8) (l : List UInt8) : litL (x :: l) = (if spB x = true then [92, x] else [x]) ++ litL l := by simp [litL]
theorem litL_ne {l : List UInt8} (h : l ≠ []) : litL l ≠ [] := by
  cases l with
  | nil => exact absurd rfl h
  | cons x l => rw [litL_cons]; split <;> simp
/-- One rune of it: as it is read of the text, and as it is read of the literal. -/
theorem lit_cut (l : List UInt8) (hne : l ≠ []) (hv : Lib.validD l = true) :
    Lib.validD (l.drop (Lib.decodeL l).2) = true ∧ elL (litL l) = some (.set false [((Lib.decodeL l).1, (Lib.decodeL l).1)], (litL (l.take (Lib.decodeL l).2)).length) ∧
    (litL l).drop (litL (l.take (Lib.decodeL l).2)).length = litL (l.drop (Lib.decodeL l).2) ∧ Lib.validD (litL l) = Lib.validD (litL (l.drop (Lib.decodeL l).2)) := by
  obtain ⟨hv2, hed, hvr, hlit⟩ := lit_rune l hne hv
  have hnb : ¬ ((Lib.decodeL l).1 = 65533 ∧ (Lib.decodeL l).2 = 1) := by
    rw [Lib.validD_step l hne] at hv
    split at hv
    · cases hv
    · assumption
  have hle := Lib.decodeL_le l hne
  have hw := Lib.decodeL_width l
  have hs : litL l = litL (l.take (Lib.decodeL l).2) ++ litL (l.drop (Lib.decodeL l).2) := by rw [← litL_app, List.take_append_drop]
  have hdp := decode_pre l (litL (l.drop (Lib.decodeL l).2)) hne hnb
  have hne2 : l.take (Lib.decodeL l).2 ++ litL (l.drop (Lib.decodeL l).2) ≠ [] := by
    intro e
    have := congrArg List.length (List.append_eq_nil_iff.1 e).1
    rw [List.length_take, List.length_nil] at this
    have hl : 0 < l.length := List.length_pos_iff.2 hne
    omega
  have hdrop : (l.take (Lib.decodeL l).2 ++ litL (l.drop (Lib.decodeL l).2)).drop (Lib.decodeL l).2 = litL (l.drop (Lib.decodeL l).2) := by
    rw [List.drop_append_of_le_length (by rw [List.length_take]; omega), List.drop_of_length_le (by rw [List.length_take]; omega)]
    rfl
  have hvp : Lib.validD (l.take (Lib.decodeL l).2 ++ litL (l.drop (Lib.decodeL l).2)) = Lib.validD (litL (l.drop (Lib.decodeL l).2)) := by
    rw [Lib.validD_step _ hne2, hdp, if_neg hnb, hdrop]
  obtain ⟨x, t, rfl⟩ := List.exists_cons_of_ne_nil hne
  by_cases hx : spB x = true
  · have hx2 : x = 42 ∨ x = 63 ∨ x = 91 ∨ x = 92 := of_decide_eq_true hx
    have hx3 : x.toNat < 128 := by rcases hx2 with rfl | rfl | rfl | rfl <;> decide
    have hd := Lib.decodeL_ascii x t hx3
    rw [hd] at hv2 ⊢
    refine ⟨hv2, ?_, ?_, ?_⟩
    · rw [litL_cons, if_pos hx]
      show elL (92 :: x :: litL t) = some (.set false [(x.toNat, x.toNat)], (litL [x]).length)
      have hdt : decL (x :: litL t) = (x.toNat, 1) := by
        unfold decL
        rw [if_neg (by simp), Lib.decodeL_ascii x _ hx3]
      have hr : runeL (92 :: x :: litL t) = (x.toNat, 2) := by
        unfold runeL
        rw [if_pos (show (92 :: x :: litL t).head? = some 92 from rfl)]
        show ((decL (x :: litL t)).1, if 0 < (decL (x :: litL t)).2 then (decL (x :: litL t)).2 + 1 else 0) = _
        rw [hdt]
        rfl
      have hlen : (litL [x]).length = 2 := by rw [litL_cons, if_pos hx]; rfl
      unfold elL
      rw [if_neg (by simp), if_neg (by simp), if_neg (by simp), hr, if_neg (by simp), hlen]
    · show (litL (x :: t)).drop (litL [x]).length = litL t
      have hlen : (litL [x]).length = 2 := by rw [litL_cons, if_pos hx]; rfl
      rw [hlen, litL_cons, if_pos hx]
      rfl
    · rw [litL_cons, if_pos hx]
      show Lib.validD (92 :: x :: litL t) = Lib.validD (litL t)
      rw [Lib.validD_cons _ _ (by decide), Lib.validD_cons _ _ hx3]
  · have hsp : GS.special ((Lib.decodeL (x :: t)).1 : Int) = false := by
      cases h : GS.special ((Lib.decodeL (x :: t)).1 : Int)
      · rfl
      · exfalso
        rw [h] at hlit
        have htk : ∃ y, (x :: t).take (Lib.decodeL (x :: t)).2 = x :: y := by
          obtain ⟨n, hn⟩ : ∃ n, (Lib.decodeL (x :: t)).2 = n + 1 := ⟨(Lib.decodeL (x :: t)).2 - 1, by omega⟩
          rw [hn]
          exact ⟨_, List.take_succ_cons⟩
        obtain ⟨y, hy⟩ := htk
        rw [hy, litL_cons, if_neg hx] at hlit
        simp only [if_true, List.cons_append, List.nil_append, List.cons.injEq] at hlit
        obtain ⟨h1, _⟩ := hlit
        rw [h1] at hx
        exact hx (by decide)
    rw [hsp] at hlit
    simp only [Bool.false_eq_true, if_false, List.nil_append] at hlit
    rw [hlit] at hs ⊢
    have hlt : ((x :: t).take (Lib.decodeL (x :: t)).2).length = (Lib.decodeL (x :: t)).2 := by rw [List.length_take]; omega
    rw [hlt]
    have hhd : (litL (x :: t)).head? = some x := by rw [litL_cons, if_neg hx]; rfl
    have hxn : x ≠ 42 ∧ x ≠ 63 ∧ x ≠ 91 ∧ x ≠ 92 := by
      unfold spB at hx
      simp only [decide_eq_true_eq, not_or] at hx
      exact hx
    refine ⟨hv2, ?_, ?_, ?_⟩
    · have hr : runeL (litL (x :: t)) = Lib.decodeL (x :: t) := by
        unfold runeL decL
        rw [hhd, if_neg (by simpa using hxn.2.2.2), if_neg (litL_ne (by simp)), hs, hdp]
      unfold elL
      rw [hhd, if_neg (by simpa using hxn.1), if_neg (by simpa using hxn.2.1), if_neg (by simpa using hxn.2.2.1), hr, if_neg (by omega)]
    · rw [hs, hdrop]
    · rw [hs, hvp]

def lits (rs : List Nat) : List El := rs.map fun r => .set false [(r, r)]
theorem pt_lit : ∀ (n : Nat) (l : List UInt8) (a : Nat) (acc : List El), l.length ≤ n → Lib.validD l = true → ptR (litL l) a acc = .ok (acc ++ lits (runes l)) ∧ Lib.validD (litL l) = true
  | 0, l, a, acc, h, _ => by
    have : l = [] := List.eq_nil_of_length_eq_zero (by omega)
    subst this
    exact ⟨by show ptR [] a acc = _; rw [ptR_nil]; simp [lits, runes_nil], rfl⟩
  | n + 1, l, a, acc, h, hv => by
    by_cases hne : l = []
    · subst hne
      exact ⟨by show ptR [] a acc = _; rw [ptR_nil]; simp [lits, runes_nil], rfl⟩
    · obtain ⟨hv2, hel, hdr, hvl⟩ := lit_cut l hne hv
      have hw := Lib.decodeL_width l
      have hl : 0 < l.length := List.length_pos_iff.2 hne
      have ih := fun a acc => pt_lit n (l.drop (Lib.decodeL l).2) a acc (by rw [List.length_drop]; omega) hv2
      refine ⟨?_, by rw [hvl]; exact (ih 0 []).2⟩
      rw [ptR_step (litL_ne hne), hel]
      show ptR ((litL l).drop _) _ _ = _
      rw [hdr, (ih _ _).1, runes_step hne]
      simp [lits]
theorem sp_valid : ∀ (n : Nat) (l : List UInt8) (a : Nat), l.length ≤ n → Lib.validD l = true → spR l a = none
  | 0, l, a, h, _ => by
    have : l = [] := List.eq_nil_of_length_eq_zero (by omega)
    subst this
    exact spR_nil a
  | n + 1, l, a, h, hv => by
    by_cases hne : l = []
    · subst hne; exact spR_nil a
    · have hw := Lib.decodeL_width l
      have hl : 0 < l.length := List.length_pos_iff.2 hne
      rw [Lib.validD_step l hne] at hv
      split at hv
      · cases hv
      · rename_i hnb
        have hed := Lib.encode_decode l hne hnb
        rw [spR_step hne, if_neg ?_]
        · exact sp_valid n _ _ (by rw [List.length_drop]; omega) hv
        · rintro ⟨h1, h2⟩
          rw [h1] at hed
          have e3 : Lib.encodeRune ((65533 : Nat) : Int) = [239, 191, 189] := by decide
          rw [e3] at hed
          have hp : Lib.hasPrefix l [239, 191, 189] = true := by
            unfold Lib.hasPrefix
            rw [hed]
            exact List.isPrefixOf_iff_prefix.2 (List.take_prefix _ _)
          rw [hp] at h2
          cases h2
theorem cut_lit : ∀ l : List UInt8, NP.cutOn (litL l) = (NP.cutOn l).map litL
  | [] => rfl
  | x :: l => by
    have ih := cut_lit l
    rw [litL_cons]
    by_cases h47 : x = 47
    · subst h47
      rw [if_neg (by decide)]
      show NP.cutOn (47 :: litL l) = (NP.cutOn (47 :: l)).map litL
      unfold NP.cutOn
      rw [if_pos rfl, if_pos rfl, ih]
      rfl
    · obtain ⟨a, t, e⟩ := List.exists_cons_of_ne_nil (NP.cutOn_ne l)
      have e1 : NP.cutOn (x :: l) = (x :: a) :: t := by
        rw [NP.cutOn, if_neg h47, e]
      have e2 : NP.cutOn (x :: litL l) = (x :: litL a) :: t.map litL := by
        rw [NP.cutOn, if_neg h47, ih, e]
        rfl
      rw [e1, List.map_cons, litL_cons]
      split
      · show NP.cutOn (92 :: x :: litL l) = _
        rw [NP.cutOn, if_neg (by decide), e2]
        rfl
      · exact e2
end LitN
end Go.Proofs.YtechekdiadpmoaaDoor
end
section
/- The document's answer: the first byte that is part of no rune. -/
namespace Go.Proofs.YtechekdiadpmoaaDoor
open Go.RowKit Go.Lib
namespace RG
open GP LitN RN
def badB (t : List UInt8) : Bool := decide ((Lib.decodeL t).1 = 65533 ∧ (Lib.decodeL t).2 = 1)
theorem width_four (l : List UInt8) : (Lib.decodeL l).2 ≤ 4 := by
  rw [Lib.decodeL_N]
  rcases Lib.decodeN_shape l.length (l.getD 0 0).toNat (l.getD 1 0).toNat (l.getD 2 0).toNat (l.getD 3 0).toNat with ⟨_, e⟩ | ⟨_, _, _, _, e⟩ | ⟨_, _, _, _, _, _, e⟩ | ⟨_, _, _, _, _, _, _, e⟩ | e <;> rw [e] <;> simp
theorem not_bad {t : List UInt8} (h : badB t = false) : ¬ ((Lib.decodeL t).1 = 65533 ∧ (Lib.decodeL t).2 = 1) := of_decide_eq_false h
/-- The two ways to say that no rune begins here. -/
theorem bad_spoilt {t : List UInt8} (hne : t ≠ []) : ((Lib.decodeL t).1 = 65533 ∧ Lib.hasPrefix t [239, 191, 189] = false) ↔ badB t = true := by
  unfold badB
  rw [decide_eq_true_iff]
  constructor
  · rintro ⟨h1, h2⟩
    refine ⟨h1, ?_⟩
    by_cases hb : (Lib.decodeL t).2 = 1
    · exact hb
    · exfalso
      have hed := Lib.encode_decode t hne (fun h => hb h.2)
      rw [h1] at hed
      have e3 : Lib.encodeRune ((65533 : Nat) : Int) = [239, 191, 189] := by decide
      rw [e3] at hed
      have hp : Lib.hasPrefix t [239, 191, 189] = true := by
        unfold Lib.hasPrefix
        rw [hed]
        exact List.isPrefixOf_iff_prefix.2 (List.take_prefix _ _)
      rw [hp] at h2
      cases h2
  · rintro ⟨h1, h2⟩
    refine ⟨h1, ?_⟩
    cases hp : Lib.hasPrefix t [239, 191, 189]
    · rfl
    · exfalso
      unfold Lib.hasPrefix at hp
      obtain ⟨r, rfl⟩ := List.isPrefixOf_iff_prefix.1 hp
      have hd : Lib.decodeL [239, 191, 189] = (65533, 3) := by rw [Lib.decodeL_N]; decide
      rw [decode_app _ r (by simp) (by rw [hd]; simp), hd] at h2
      cases h2
theorem sp_bad {t : List UInt8} (hne : t ≠ []) (h : badB t = true) (a : Nat) : spR t a = some a := by
  rw [spR_step hne, if_pos ((bad_spoilt hne).2 h)]
theorem sp_good {t : List UInt8} (hne : t ≠ []) (h : badB t = false) (a : Nat) : spR t a = spR (t.drop (Lib.decodeL t).2) (a + (Lib.decodeL t).2) := by
  rw [spR_step hne, if_neg (fun e => by rw [(bad_spoilt hne).1 e] at h; cases h)]
theorem valid_good {t : List UInt8} (hne : t ≠ []) (h : Lib.validD t = true) : badB t = false ∧ Lib.validD (t.drop (Lib.decodeL t).2) = true := by
  rw [Lib.validD_step t hne] at h
  split at h
  · cases h
  · rename_i hb
    exact ⟨decide_eq_false hb, h⟩
theorem sp_skip : ∀ (n : Nat) (u t : List UInt8) (a : Nat), u.length ≤ n → Lib.validD u = true → spR (u ++ t) a = spR t (a + u.length)
  | 0, u, t, a, h, _ => by
    have : u = [] := List.eq_nil_of_length_eq_zero (by omega)
    subst this
    rfl
  | n + 1, u, t, a, h, hv => by
    by_cases hne : u = []
    · subst hne; rfl
    · have hw := Lib.decodeL_width u
      have hle := Lib.decodeL_le u hne
      obtain ⟨hb, hv2⟩ := valid_good hne hv
      have hd := decode_app u t hne (not_bad hb)
      have hb2 : badB (u ++ t) = false := by unfold badB; rw [hd]; exact hb
      rw [sp_good (by simp [hne]) hb2, hd, List.drop_append_of_le_length hle, sp_skip n _ t _ (by rw [List.length_drop]; omega) hv2, List.length_drop]
      congr 1
      omega
theorem sp_some : ∀ (n : Nat) (l : List UInt8) (a k : Nat), l.length ≤ n → spR l a = some k → ∃ j, k = a + j ∧ j < l.length ∧ Lib.validD (l.take j) = true ∧ badB (l.drop j) = true
  | 0, l, a, k, h, e => by
    have : l = [] := List.eq_nil_of_length_eq_zero (by omega)
    subst this
    rw [spR_nil] at e
    cases e
  | n + 1, l, a, k, h, e => by
    by_cases hne : l = []
    · subst hne
      rw [spR_nil] at e
      cases e
    · have hl : 0 < l.length := List.length_pos_iff.2 hne
      cases hb : badB l
      · have hw := Lib.decodeL_width l
        have hle := Lib.decodeL_le l hne
        rw [sp_good hne hb] at e
        obtain ⟨j, hj, hjl, hv, hbd⟩ := sp_some n _ _ k (by rw [List.length_drop]; omega) e
        rw [List.length_drop] at hjl
        refine ⟨(Lib.decodeL l).2 + j, by omega, by omega, ?_, by rw [List.drop_drop] at hbd; exact hbd⟩
        have ht : l.take ((Lib.decodeL l).2 + j) = l.take (Lib.decodeL l).2 ++ (l.drop (Lib.decodeL l).2).take j := List.take_add
        have hne2 : l.take (Lib.decodeL l).2 ++ (l.drop (Lib.decodeL l).2).take j ≠ [] := by
          intro e2
          have := congrArg List.length (List.append_eq_nil_iff.1 e2).1
          rw [List.length_take, List.length_nil] at this
          omega
        rw [ht, Lib.validD_step _ hne2, decode_pre l _ hne (not_bad hb), if_neg (not_bad hb), List.drop_append_of_le_length (by rw [List.length_take]; omega), List.drop_of_length_le (by rw [List.length_take]; omega), List.nil_append]
        exact hv
      · rw [sp_bad hne hb] at e
        cases e
        exact ⟨0, rfl, hl, rfl, hb⟩
/-- A rune's beginning: its own bytes are valid; of fewer, none are. -/
theorem good_take {t : List UInt8} (hne : t ≠ []) (h : badB t = false) : Lib.validD (t.take (Lib.decodeL t).2) = true := by
  have hle := Lib.decodeL_le t hne
  have hw := Lib.decodeL_width t
  have hl : 0 < t.length := List.length_pos_iff.2 hne
  have hne2 : t.take (Lib.decodeL t).2 ≠ [] := by
    intro e2
    have := congrArg List.length e2
    rw [List.length_take, List.length_nil] at this
    omega
  have hp := decode_pre t [] hne (not_bad h)
  rw [List.append_nil] at hp
  rw [Lib.validD_step _ hne2, hp, if_neg (not_bad h), List.drop_of_length_le (by rw [List.length_take]; omega)]
  rfl
theorem take_good {t : List UInt8} {n : Nat} (hn : 1 ≤ n) (hne : t ≠ []) (h : Lib.validD (t.take n) = true) : badB t = false := by
  have hl : 0 < t.length := List.length_pos_iff.2 hne
  have hne2 : t.take n ≠ [] := by
    intro e2
    have := congrArg List.length e2
    rw [List.length_take, List.length_nil] at this
    omega
  obtain ⟨hb, _⟩ := valid_good hne2 h
  have hd := decode_app (t.take n) (t.drop n) hne2 (not_bad hb)
  rw [List.take_append_drop] at hd
  unfold badB
  rw [hd]
  exact hb
def badI (l : List UInt8) : Int := match spR l 0 with
  | some k => k
  | none => -1
theorem bad_at {l : List UInt8} {k : Nat} (hk : k < l.length) (hv : Lib.validD (l.take k) = true) (hb : badB (l.drop k) = true) : badI l = k := by
  have hne : l.drop k ≠ [] := by
    intro e
    have := congrArg List.length e
    rw [List.length_drop, List.length_nil] at this
    omega
  have h := sp_skip _ (l.take k) (l.drop k) 0 (Nat.le_refl _) hv
  rw [List.take_append_drop, sp_bad hne hb, List.length_take, Nat.min_eq_left (by omega), Nat.zero_add] at h
  unfold badI
  rw [h]
theorem bad_none {l : List UInt8} (h : ∀ k, k < l.length → ¬ (Lib.validD (l.take k) = true ∧ badB (l.drop k) = true)) : badI l = -1 := by
  unfold badI
  cases hs : spR l 0 with
  | none => rfl
  | some k =>
    obtain ⟨j, _, hj, hv, hb⟩ := sp_some _ l 0 k (Nat.le_refl _) hs
    exact absurd ⟨hv, hb⟩ (h j hj)
end RG
end Go.Proofs.YtechekdiadpmoaaDoor
namespace Go.Proofs.YtechekdiadpmoaaDoor
open Go.RowKit Go.Lib
namespace RG
open GP LitN RN
def IntPost (v : Int) (w : World) (e : Ending) (w' : World) : Prop := e = .returned (.int .i64 v) ∧ w = w'
theorem take_of (s : ByteArray) (k : Nat) : (s.extract 0 k).data.toList = s.data.toList.take k := Lib.extract_from_zero s k
theorem drop_ne (s : ByteArray) (k : Nat) (h : k < s.size) : s.data.toList.drop k ≠ [] := by
  intro e
  have := congrArg List.length e
  rw [List.length_drop, ← Lib.size_eq, List.length_nil] at this
  omega
theorem bad_of (s : ByteArray) (k n : Nat) (h : k < s.size) (hn : ∀ m, 1 ≤ m → m < n → Lib.validD ((s.data.toList.drop k).take m) = false) (he : 4 < n ∨ s.size < k + n) : badB (s.data.toList.drop k) = true := by
  cases hb : badB (s.data.toList.drop k)
  · exfalso
    have hne := drop_ne s k h
    have h1 := good_take hne hb
    have hw := Lib.decodeL_width (s.data.toList.drop k)
    have h4 := width_four (s.data.toList.drop k)
    have hle := Lib.decodeL_le _ hne
    rw [List.length_drop, ← Lib.size_eq] at hle
    by_cases hlt : (Lib.decodeL (s.data.toList.drop k)).2 < n
    · rw [hn _ hw hlt] at h1
      cases h1
    · omega
  · rfl
set_option maxRecDepth 100000 in
set_option maxHeartbeats 1600000 in
theorem bad_any (s : ByteArray) (w : World) (hs : s.size ≤ 400) :
    Calls Tryd.prog 76 #[.string s] w (IntPost (badI s.data.toList) w) := by
  go_enter Tryd.func76, Tryd.ntmps76
  go_wp2_with fail
  go_loop [3] (fun s3 => ∃ k : Nat, k ≤ s.size ∧ s3 = .int .i64 k ∧ ∀ j, j < k → ¬ (Lib.validD (s.data.toList.take j) = true ∧ badB (s.data.toList.drop j) = true)) (fun s3 => s.size - (Go.RowKit.intOf s3).toNat)
  case atStart => exact ⟨0, Nat.zero_le _, rfl, fun j h => by omega⟩
  case round =>
    obtain ⟨k, hk, rfl, hall⟩ := hrel
    have Hall := Lib.hid hall
    clear hall
    by_cases hlt : k < s.size
    · have hz : (k : Int) < s.size := by omega
      have hkz : (k : Int) ≤ s.size := by omega
      have cV := valid_ref (s.extract 0 k) w (by rw [ByteArray.size_extract]; omega)
      rw [take_of] at cV
      cases hv : Lib.validD (s.data.toList.take k)
      · have HN : Hid (∀ j, j < k + 1 → ¬ (Lib.validD (s.data.toList.take j) = true ∧ badB (s.data.toList.drop j) = true)) := Lib.hid (fun j hj => by
          by_cases h : j < k
          · exact Hall.out j h
          · have : j = k := by omega
            subst this
            rw [hv]
            simp)
        rw [hv] at cV
        clear hv
        go_wp2_with fail
        refine cV.mono ?_
        rintro e w' ⟨rfl, rfl⟩
        clear cV
        go_wp2_with fail
        go_round
        case rel => exact ⟨k + 1, by omega, by go_num, HN.out⟩
        case measure => simp [Go.RowKit.intOf]; omega
      · rw [hv] at cV
        have Hv := Lib.hid hv
        clear hv
        go_wp2_with fail
        refine cV.mono ?_
        rintro e w' ⟨rfl, rfl⟩
        clear cV
        go_wp2_with fail
        go_loop [4] (fun s4 => ∃ n : Nat, 1 ≤ n ∧ n ≤ 5 ∧ s4 = .int .i64 n ∧ ∀ m, 1 ≤ m → m < n → Lib.validD ((s.data.toList.drop k).take m) = false) (fun s4 => 5 - (Go.RowKit.intOf s4).toNat)
        case atStart => exact ⟨1, by omega, by omega, rfl, fun m h1 h2 => by omega⟩
        case round =>
          obtain ⟨n, hn1, hn5, rfl, hno⟩ := hrel
          have Hno := Lib.hid hno
          clear hno
          by_cases h4 : n ≤ 4
          · have h4z : (n : Int) ≤ 4 := by omega
            have h4n : ¬ (4 : Int) < n := by omega
            by_cases hks : k + n ≤ s.size
            · have hksz : ((k : Int) + n) ≤ s.size := by omega
              have hksn : ¬ (s.size : Int) < ((k : Int) + n) := by omega
              have hkk : (k : Int) ≤ (k : Int) + n := by omega
              have cV2 := valid_ref (s.extract k (k + n)) w (by rw [ByteArray.size_extract]; omega)
              rw [Lib.extract_data, Nat.add_sub_cancel_left] at cV2
              cases hv2 : Lib.validD ((s.data.toList.drop k).take n)
              · have HN : Hid (∀ m, 1 ≤ m → m < n + 1 → Lib.validD ((s.data.toList.drop k).take m) = false) := Lib.hid (fun m h1 h2 => by
                  by_cases h : m < n
                  · exact Hno.out m h1 h
                  · have : m = n := by omega
                    subst this
                    exact hv2)
                rw [hv2] at cV2
                clear hv2
                go_wp2_with fail
                refine cV2.mono ?_
                rintro e w' ⟨rfl, rfl⟩
                clear cV2
                go_wp2_with fail
                go_round
                case rel => exact ⟨n + 1, by omega, by omega, by go_num, HN.out⟩
                case measure => simp [Go.RowKit.intOf]; omega
              · have HN : Hid (∀ j, j < k + 1 → ¬ (Lib.validD (s.data.toList.take j) = true ∧ badB (s.data.toList.drop j) = true)) := Lib.hid (fun j hj => by
                  by_cases h : j < k
                  · exact Hall.out j h
                  · have : j = k := by omega
                    subst this
                    rw [take_good hn1 (drop_ne s j hlt) hv2]
                    simp)
                rw [hv2] at cV2
                clear hv2
                go_wp2_with fail
                refine cV2.mono ?_
                rintro e w' ⟨rfl, rfl⟩
                clear cV2
                go_wp2_with fail
                go_round
                case rel => exact ⟨k + 1, by omega, by go_num, HN.out⟩
                case measure => simp [Go.RowKit.intOf]; omega
            · have hksz : ¬ ((k : Int) + n) ≤ s.size := by omega
              have hksn : (s.size : Int) < ((k : Int) + n) := by omega
              have HB : Hid (badI s.data.toList = k) := Lib.hid (bad_at (by rw [← Lib.size_eq]; exact hlt) Hv.out (bad_of s k n hlt Hno.out (.inr (by omega))))
              go_wp2_with fail
              go_ret
              exact ⟨by rw [HB.out]; rfl, rfl⟩
          · have h4z : ¬ (n : Int) ≤ 4 := by omega
            have h4n : (4 : Int) < n := by omega
            have HB : Hid (badI s.data.toList = k) := Lib.hid (bad_at (by rw [← Lib.size_eq]; exact hlt) Hv.out (bad_of s k n hlt Hno.out (.inl (by omega))))
            go_wp2_with fail
            go_ret
            exact ⟨by rw [HB.out]; rfl, rfl⟩
    · have hz : ¬ (k : Int) < s.size := by omega
      have HE : Hid (badI s.data.toList = -1) := Lib.hid (bad_none (fun j hj => Hall.out j (by rw [← Lib.size_eq] at hj; omega)))
      go_wp2_with fail
      go_ret
      exact ⟨by rw [HE.out]; rfl, rfl⟩
end RG
end Go.Proofs.YtechekdiadpmoaaDoor
end
section
/- The document's answer: where brackets close. -/
namespace Go.Proofs.YtechekdiadpmoaaDoor
open Go.RowKit Go.Lib
namespace RG
def clR : List UInt8 → Nat → Nat → Option Nat
  | [], _, _ => none
  | x :: r, i, fr =>
    if x = 47 then none
    else if x = 92 then (match r with
      | [] => none
      | y :: r2 => if y = 47 then none else clR r2 (i + 2) fr)
    else if x = 93 then (if i = fr then none else some i)
    else clR r (i + 1) fr
theorem clR_nil (i fr : Nat) : clR [] i fr = none := by rw [clR]
theorem clR_cons (x : UInt8) (r : List UInt8) (i fr : Nat) : clR (x :: r) i fr = if x = 47 then none
    else if x = 92 then (match r with
      | [] => none
      | y :: r2 => if y = 47 then none else clR r2 (i + 2) fr)
    else if x = 93 then (if i = fr then none else some i)
    else clR r (i + 1) fr := by
  cases r <;> simp only [clR]
def clI : Option Nat → Int
  | none => -1
  | some e => e
def clF (l : List UInt8) (a : Nat) : Nat := if (l.drop (a + 1)).head? = some 33 then a + 2 else a + 1
def clL (l : List UInt8) (a : Nat) : Option Nat := clR (l.drop (clF l a)) (clF l a) (clF l a)
theorem drop_at (s : ByteArray) (k : Nat) (h : k < s.size) : s.data.toList.drop k = s[k] :: s.data.toList.drop (k + 1) := by
  have hl : k < s.data.toList.length := by rw [← Lib.size_eq]; exact h
  rw [List.drop_eq_getElem_cons hl]
  rfl
theorem drop_end (s : ByteArray) (k : Nat) (h : s.size ≤ k) : s.data.toList.drop k = [] := List.drop_of_length_le (by rw [← Lib.size_eq]; exact h)
def ClPost (R : Option Nat) (w : World) (e : Ending) (w' : World) : Prop := e = .returned (.int .i64 (clI R)) ∧ w = w'
set_option maxRecDepth 100000 in
set_option maxHeartbeats 1600000 in
theorem closing_any (s : ByteArray) (a : Nat) (w : World) (ha : a < s.size) (hs : s.size ≤ 400) :
    Calls Tryd.prog 77 #[.string s, .int .i64 a] w (ClPost (clL s.data.toList a) w) := by
  obtain ⟨fr, hfr, hf1, hf2⟩ : ∃ fr, fr = clF s.data.toList a ∧ a + 1 ≤ fr ∧ fr ≤ s.size := by
    refine ⟨_, rfl, by unfold clF; split <;> omega, ?_⟩
    unfold clF
    split
    · rename_i h
      by_cases h2 : a + 1 < s.size
      · omega
      · rw [drop_end s (a + 1) (by omega)] at h
        cases h
    · omega
  have HR : Hid (clR (s.data.toList.drop fr) fr fr = clL s.data.toList a) := Lib.hid (by unfold clL; rw [hfr])
  generalize clL s.data.toList a = R at HR
  by_cases h1 : a + 1 < s.size
  · have h1z : ((a : Int) + 1) < s.size := by omega
    have hd := drop_at s (a + 1) h1
    unfold clF at hfr
    rw [hd] at hfr
    simp only [List.head?_cons, Option.some.injEq] at hfr
    by_cases h33 : s[a + 1] = 33
    · have hb : ((((s[a + 1]).toNat : Nat) : Int) == 33) = true := by rw [h33]; rfl
      rw [if_pos h33] at hfr
      subst hfr
      clear h33 hd
      go_enter Tryd.func77, Tryd.ntmps77
      go_wp2_with fail
      go_loop [6] (fun s6 => ∃ k : Nat, k ≤ s.size ∧ s6 = .int .i64 k ∧ clR (s.data.toList.drop k) k (a + 2) = R) (fun s6 => s.size - (Go.RowKit.intOf s6).toNat)
      case atStart => exact ⟨a + 2, by omega, by go_num, HR.out⟩
      case round =>
        obtain ⟨k, hk, rfl, hR⟩ := hrel
        by_cases hlt : k < s.size
        · have hz : (k : Int) < s.size := by omega
          rw [drop_at s k hlt, clR_cons] at hR
          by_cases h47 : s[k] = 47
          · have e47 : ((((s[k]).toNat : Nat) : Int) == 47) = true := by rw [h47]; rfl
            rw [if_pos h47] at hR
            subst hR
            clear h47
            go_wp2_with fail
            go_ret
            exact ⟨rfl, rfl⟩
          · have e47 : ((((s[k]).toNat : Nat) : Int) == 47) = false := GR.byte_no h47
            rw [if_neg h47] at hR
            clear h47
            by_cases h92 : s[k] = 92
            · have e92 : ((((s[k]).toNat : Nat) : Int) == 92) = true := by rw [h92]; rfl
              rw [if_pos h92] at hR
              clear h92
              by_cases hl2 : k + 1 < s.size
              · have hz2 : ((k : Int) + 1) < s.size := by omega
                have hz3 : ¬ (s.size : Int) ≤ ((k : Int) + 1) := by omega
                rw [drop_at s (k + 1) hl2] at hR
                simp only [] at hR
                by_cases h47 : s[k + 1] = 47
                · have f47 : ((((s[k + 1]).toNat : Nat) : Int) == 47) = true := by rw [h47]; rfl
                  rw [if_pos h47] at hR
                  subst hR
                  clear h47
                  go_wp2_with fail
                  go_ret
                  exact ⟨rfl, rfl⟩
                · have f47 : ((((s[k + 1]).toNat : Nat) : Int) == 47) = false := GR.byte_no h47
                  rw [if_neg h47] at hR
                  have hR2 := Lib.hid hR
                  clear h47 hR
                  go_wp2_with fail
                  go_round
                  case rel => exact ⟨k + 2, by omega, by go_num, hR2.out⟩
                  case measure => simp [Go.RowKit.intOf]; omega
              · have hz3 : (s.size : Int) ≤ ((k : Int) + 1) := by omega
                rw [drop_end s (k + 1) (by omega)] at hR
                simp only [] at hR
                subst hR
                go_wp2_with fail
                go_ret
                exact ⟨rfl, rfl⟩
            · have e92 : ((((s[k]).toNat : Nat) : Int) == 92) = false := GR.byte_no h92
              rw [if_neg h92] at hR
              clear h92
              by_cases h93 : s[k] = 93
              · have e93 : ((((s[k]).toNat : Nat) : Int) == 93) = true := by rw [h93]; rfl
                rw [if_pos h93] at hR
                clear h93
                by_cases hkf : k = a + 2
                · have ek : ((k : Int) == ((a : Int) + 1 + 1)) = true := beq_iff_eq.2 (by omega)
                  rw [if_pos hkf] at hR
                  subst hR
                  clear hkf
                  go_wp2_with fail
                  go_ret
                  exact ⟨rfl, rfl⟩
                · have ek : ((k : Int) == ((a : Int) + 1 + 1)) = false := beq_eq_false_iff_ne.2 (by omega)
                  rw [if_neg hkf] at hR
                  subst hR
                  clear hkf
                  go_wp2_with fail
                  go_ret
                  exact ⟨rfl, rfl⟩
              · have e93 : ((((s[k]).toNat : Nat) : Int) == 93) = false := GR.byte_no h93
                rw [if_neg h93] at hR
                have hR2 := Lib.hid hR
                clear h93 hR
                go_wp2_with fail
                go_round
                case rel => exact ⟨k + 1, by omega, by go_num, hR2.out⟩
                case measure => simp [Go.RowKit.intOf]; omega
        · have hz : ¬ (k : Int) < s.size := by omega
          rw [drop_end s k (by omega), clR_nil] at hR
          subst hR
          go_wp2_with fail
          go_ret
          exact ⟨rfl, rfl⟩
    · have hb : ((((s[a + 1]).toNat : Nat) : Int) == 33) = false := GR.byte_no h33
      rw [if_neg h33] at hfr
      subst hfr
      clear h33 hd
      go_enter Tryd.func77, Tryd.ntmps77
      go_wp2_with fail
      go_loop [6] (fun s6 => ∃ k : Nat, k ≤ s.size ∧ s6 = .int .i64 k ∧ clR (s.data.toList.drop k) k (a + 1) = R) (fun s6 => s.size - (Go.RowKit.intOf s6).toNat)
      case atStart => exact ⟨a + 1, by omega, by go_num, HR.out⟩
      case round =>
        obtain ⟨k, hk, rfl, hR⟩ := hrel
        by_cases hlt : k < s.size
        · have hz : (k : Int) < s.size := by omega
          rw [drop_at s k hlt, clR_cons] at hR
          by_cases h47 : s[k] = 47
          · have e47 : ((((s[k]).toNat : Nat) : Int) == 47) = true := by rw [h47]; rfl
            rw [if_pos h47] at hR
            subst hR
            clear h47
            go_wp2_with fail
            go_ret
            exact ⟨rfl, rfl⟩
          · have e47 : ((((s[k]).toNat : Nat) : Int) == 47) = false := GR.byte_no h47
            rw [if_neg h47] at hR
            clear h47
            by_cases h92 : s[k] = 92
            · have e92 : ((((s[k]).toNat : Nat) : Int) == 92) = true := by rw [h92]; rfl
              rw [if_pos h92] at hR
              clear h92
              by_cases hl2 : k + 1 < s.size
              · have hz2 : ((k : Int) + 1) < s.size := by omega
                have hz3 : ¬ (s.size : Int) ≤ ((k : Int) + 1) := by omega
                rw [drop_at s (k + 1) hl2] at hR
                simp only [] at hR
                by_cases h47 : s[k + 1] = 47
                · have f47 : ((((s[k + 1]).toNat : Nat) : Int) == 47) = true := by rw [h47]; rfl
                  rw [if_pos h47] at hR
                  subst hR
                  clear h47
                  go_wp2_with fail
                  go_ret
                  exact ⟨rfl, rfl⟩
                · have f47 : ((((s[k + 1]).toNat : Nat) : Int) == 47) = false := GR.byte_no h47
                  rw [if_neg h47] at hR
                  have hR2 := Lib.hid hR
                  clear h47 hR
                  go_wp2_with fail
                  go_round
                  case rel => exact ⟨k + 2, by omega, by go_num, hR2.out⟩
                  case measure => simp [Go.RowKit.intOf]; omega
              · have hz3 : (s.size : Int) ≤ ((k : Int) + 1) := by omega
                rw [drop_end s (k + 1) (by omega)] at hR
                simp only [] at hR
                subst hR
                go_wp2_with fail
                go_ret
                exact ⟨rfl, rfl⟩
            · have e92 : ((((s[k]).toNat : Nat) : Int) == 92) = false := GR.byte_no h92
              rw [if_neg h92] at hR
              clear h92
              by_cases h93 : s[k] = 93
              · have e93 : ((((s[k]).toNat : Nat) : Int) == 93) = true := by rw [h93]; rfl
                rw [if_pos h93] at hR
                clear h93
                by_cases hkf : k = a + 1
                · have ek : ((k : Int) == ((a : Int) + 1)) = true := beq_iff_eq.2 (by omega)
                  rw [if_pos hkf] at hR
                  subst hR
                  clear hkf
                  go_wp2_with fail
                  go_ret
                  exact ⟨rfl, rfl⟩
                · have ek : ((k : Int) == ((a : Int) + 1)) = false := beq_eq_false_iff_ne.2 (by omega)
                  rw [if_neg hkf] at hR
                  subst hR
                  clear hkf
                  go_wp2_with fail
                  go_ret
                  exact ⟨rfl, rfl⟩
              · have e93 : ((((s[k]).toNat : Nat) : Int) == 93) = false := GR.byte_no h93
                rw [if_neg h93] at hR
                have hR2 := Lib.hid hR
                clear h93 hR
                go_wp2_with fail
                go_round
                case rel => exact ⟨k + 1, by omega, by go_num, hR2.out⟩
                case measure => simp [Go.RowKit.intOf]; omega
        · have hz : ¬ (k : Int) < s.size := by omega
          rw [drop_end s k (by omega), clR_nil] at hR
          subst hR
          go_wp2_with fail
          go_ret
          exact ⟨rfl, rfl⟩
  · have h1z : ¬ ((a : Int) + 1) < s.size := by omega
    have hfr2 : fr = a + 1 := by
      rw [hfr]
      unfold clF
      rw [drop_end s (a + 1) (by omega)]
      rfl
    clear hfr
    subst hfr2
    go_enter Tryd.func77, Tryd.ntmps77
    go_wp2_with fail
    go_loop [6] (fun s6 => ∃ k : Nat, k ≤ s.size ∧ s6 = .int .i64 k ∧ clR (s.data.toList.drop k) k (a + 1) = R) (fun s6 => s.size - (Go.RowKit.intOf s6).toNat)
    case atStart => exact ⟨a + 1, by omega, by go_num, HR.out⟩
    case round =>
      obtain ⟨k, hk, rfl, hR⟩ := hrel
      by_cases hlt : k < s.size
      · have hz : (k : Int) < s.size := by omega
        rw [drop_at s k hlt, clR_cons] at hR
        by_cases h47 : s[k] = 47
        · have e47 : ((((s[k]).toNat : Nat) : Int) == 47) = true := by rw [h47]; rfl
          rw [if_pos h47] at hR
          subst hR
          clear h47
          go_wp2_with fail
          go_ret
          exact ⟨rfl, rfl⟩
        · have e47 : ((((s[k]).toNat : Nat) : Int) == 47) = false := GR.byte_no h47
          rw [if_neg h47] at hR
          clear h47
          by_cases h92 : s[k] = 92
          · have e92 : ((((s[k]).toNat : Nat) : Int) == 92) = true := by rw [h92]; rfl
            rw [if_pos h92] at hR
            clear h92
            by_cases hl2 : k + 1 < s.size
            · have hz2 : ((k : Int) + 1) < s.size := by omega
              have hz3 : ¬ (s.size : Int) ≤ ((k : Int) + 1) := by omega
              rw [drop_at s (k + 1) hl2] at hR
              simp only [] at hR
              by_cases h47 : s[k + 1] = 47
              · have f47 : ((((s[k + 1]).toNat : Nat) : Int) == 47) = true := by rw [h47]; rfl
                rw [if_pos h47] at hR
                subst hR
                clear h47
                go_wp2_with fail
                go_ret
                exact ⟨rfl, rfl⟩
              · have f47 : ((((s[k + 1]).toNat : Nat) : Int) == 47) = false := GR.byte_no h47
                rw [if_neg h47] at hR
                have hR2 := Lib.hid hR
                clear h47 hR
                go_wp2_with fail
                go_round
                case rel => exact ⟨k + 2, by omega, by go_num, hR2.out⟩
                case measure => simp [Go.RowKit.intOf]; omega
            · have hz3 : (s.size : Int) ≤ ((k : Int) + 1) := by omega
              rw [drop_end s (k + 1) (by omega)] at hR
              simp only [] at hR
              subst hR
              go_wp2_with fail
              go_ret
              exact ⟨rfl, rfl⟩
          · have e92 : ((((s[k]).toNat : Nat) : Int) == 92) = false := GR.byte_no h92
            rw [if_neg h92] at hR
            clear h92
            by_cases h93 : s[k] = 93
            · have e93 : ((((s[k]).toNat : Nat) : Int) == 93) = true := by rw [h93]; rfl
              rw [if_pos h93] at hR
              clear h93
              by_cases hkf : k = a + 1
              · have ek : ((k : Int) == ((a : Int) + 1)) = true := beq_iff_eq.2 (by omega)
                rw [if_pos hkf] at hR
                subst hR
                clear hkf
                go_wp2_with fail
                go_ret
                exact ⟨rfl, rfl⟩
              · have ek : ((k : Int) == ((a : Int) + 1)) = false := beq_eq_false_iff_ne.2 (by omega)
                rw [if_neg hkf] at hR
                subst hR
                clear hkf
                go_wp2_with fail
                go_ret
                exact ⟨rfl, rfl⟩
            · have e93 : ((((s[k]).toNat : Nat) : Int) == 93) = false := GR.byte_no h93
              rw [if_neg h93] at hR
              have hR2 := Lib.hid hR
              clear h93 hR
              go_wp2_with fail
              go_round
              case rel => exact ⟨k + 1, by omega, by go_num, hR2.out⟩
              case measure => simp [Go.RowKit.intOf]; omega
      · have hz : ¬ (k : Int) < s.size := by omega
        rw [drop_end s k (by omega), clR_nil] at hR
        subst hR
        go_wp2_with fail
        go_ret
        exact ⟨rfl, rfl⟩
end RG
end Go.Proofs.YtechekdiadpmoaaDoor
end
section
/- The document's answer: Check. -/
namespace Go.Proofs.YtechekdiadpmoaaDoor
open Go.RowKit Go.Lib
namespace RG
open GP LitN RN
theorem clR_some : ∀ (n : Nat) (r : List UInt8) (i fr e : Nat), r.length ≤ n → clR r i fr = some e → i ≤ e ∧ e < i + r.length
  | 0, r, i, fr, e, h, he => by
    have : r = [] := List.eq_nil_of_length_eq_zero (by omega)
    subst this
    rw [clR_nil] at he
    cases he
  | n + 1, r, i, fr, e, h, he => by
    cases r with
    | nil => rw [clR_nil] at he; cases he
    | cons x r =>
      rw [List.length_cons] at h ⊢
      rw [clR_cons] at he
      split at he
      · cases he
      · split at he
        · cases r with
          | nil => simp at he
          | cons y r2 =>
            simp only [] at he
            rw [List.length_cons] at h ⊢
            split at he
            · cases he
            · have := clR_some n r2 (i + 2) fr e (by omega) he
              omega
        · split at he
          · split at he
            · cases he
            · simp only [Option.some.injEq] at he
              omega
          · have := clR_some n r (i + 1) fr e (by omega) he
            omega
theorem clL_some {l : List UInt8} {a e : Nat} (h : clL l a = some e) : a + 1 ≤ e ∧ e < l.length := by
  unfold clL at h
  have h1 := clR_some _ _ _ _ _ (Nat.le_refl _) h
  have h2 : a + 1 ≤ clF l a := by unfold clF; split <;> omega
  rw [List.length_drop] at h1
  omega
def ckG : Nat → List UInt8 → Nat → Bool → Option Nat
  | 0, _, _, _ => none
  | n + 1, l, i, b => match l.drop i with
    | [] => none
    | x :: r =>
      if x = 47 then (if b = false ∨ r = [] then some i else ckG n l (i + 1) false)
      else if x = 92 then (if r = [] ∨ r.head? = some 47 then some i else ckG n l (i + 2) true)
      else if x = 91 then (match clL l i with
        | none => some i
        | some e => ckG n l (e + 1) true)
      else ckG n l (i + 1) true
def ckO : Option Nat → Nat × Nat
  | some k => (k, 20)
  | none => (0, 0)
def rchkL (l : List UInt8) : Nat × Nat :=
  if l = [] ∨ 400 < l.length then (l.length, 20)
  else match spR l 0 with
    | some k => (k, 20)
    | none => ckO (ckG (l.length + 1) l 0 false)
def PairPost (a : Nat × Nat) (w : World) (e : Ending) (w' : World) : Prop := e = .returned (.tuple #[.int .i64 (a.1 : Nat), .int .i64 (a.2 : Nat)]) ∧ w = w'
set_option maxRecDepth 100000 in
set_option maxHeartbeats 3200000 in
theorem rcheck_any (s : ByteArray) (w : World) (hs : s.size ≤ 9223372036854775807) :
    Calls Tryd.prog 56 #[.string s] w (PairPost (rchkL s.data.toList) w) := by
  by_cases h0 : s.data.toList = []
  · have hte := GR.empty_of h0
    have hsz := hte.2
    have hti := hte.1
    have HX : Hid (rchkL s.data.toList = (0, 20)) := Lib.hid (by unfold rchkL; rw [if_pos (.inl h0), h0]; rfl)
    clear hte h0
    go_enter Tryd.func56, Tryd.ntmps56
    go_wp2_with fail
    go_ret2
    exact ⟨by rw [HX.out]; rfl, rfl⟩
  · have hti : s.toList.isEmpty = false := by rw [Lib.toList_data]; simpa using h0
    by_cases h4 : 400 < s.size
    · have h4z : (400 : Int) < s.size := by omega
      have HX : Hid (rchkL s.data.toList = (s.size, 20)) := Lib.hid (by unfold rchkL; rw [if_pos (.inr (by rw [← Lib.size_eq]; exact h4)), ← Lib.size_eq])
      clear h0
      go_enter Tryd.func56, Tryd.ntmps56
      go_wp2_with fail
      go_ret2
      exact ⟨by rw [HX.out]; rfl, rfl⟩
    · have h4z : ¬ (400 : Int) < s.size := by omega
      have cB := bad_any s w (by omega)
      have hx : rchkL s.data.toList = match spR s.data.toList 0 with
        | some k => (k, 20)
        | none => ckO (ckG (s.data.toList.length + 1) s.data.toList 0 false) := by
        unfold rchkL
        rw [if_neg (by rw [← Lib.size_eq]; rintro (h | h); exact h0 h; omega)]
      unfold badI at cB
      clear h0
      cases hsp : spR s.data.toList 0 with
      | some k =>
        rw [hsp] at cB hx
        have HX := Lib.hid hx
        have hkz : (0 : Int) ≤ k := by omega
        clear hsp hx
        go_enter Tryd.func56, Tryd.ntmps56
        go_wp2_with fail
        refine cB.mono ?_
        rintro e w' ⟨rfl, rfl⟩
        clear cB
        go_wp2_with fail
        go_ret2
        exact ⟨by rw [HX.out]; rfl, rfl⟩
      | none =>
        rw [hsp] at cB hx
        simp only [] at cB hx
        have HX := Lib.hid hx
        clear hsp hx
        generalize hR : ckG (s.data.toList.length + 1) s.data.toList 0 false = R at HX
        have HR := Lib.hid hR
        clear hR
        go_enter Tryd.func56, Tryd.ntmps56
        go_wp2_with fail
        refine cB.mono ?_
        rintro e w' ⟨rfl, rfl⟩
        clear cB
        go_wp2_with fail
        go_loop [5, 6] (fun s5 s6 => ∃ (k n : Nat) (b : Bool), k ≤ s.size ∧ s.size < k + n ∧ s5 = .bool b ∧ s6 = .int .i64 k ∧ ckG n s.data.toList k b = R) (fun _ s6 => s.size - (Go.RowKit.intOf s6).toNat)
        case atStart => exact ⟨0, s.data.toList.length + 1, false, Nat.zero_le _, by rw [← Lib.size_eq]; omega, rfl, rfl, HR.out⟩
        case round =>
          obtain ⟨k, n, b, hk, hkn, rfl, rfl, hR⟩ := hrel
          obtain ⟨m, rfl⟩ : ∃ m, n = m + 1 := ⟨n - 1, by omega⟩
          rw [ckG] at hR
          by_cases hlt : k < s.size
          · have hz : (k : Int) < s.size := by omega
            rw [drop_at s k hlt] at hR
            simp only [] at hR
            by_cases h47 : s[k] = 47
            · have e47 : ((((s[k]).toNat : Nat) : Int) == 47) = true := by rw [h47]; rfl
              rw [if_pos h47] at hR
              clear h47
              cases b
              · rw [if_pos (.inl rfl)] at hR
                subst hR
                go_wp2_with fail
                go_ret2
                exact ⟨by rw [HX.out]; rfl, rfl⟩
              · by_cases hl : k + 1 = s.size
                · have hkl : ((k : Int) == (s.size : Int) - 1) = true := beq_iff_eq.2 (by omega)
                  rw [if_pos (.inr (drop_end s (k + 1) (by omega)))] at hR
                  subst hR
                  go_wp2_with fail
                  go_ret2
                  exact ⟨by rw [HX.out]; rfl, rfl⟩
                · have hkl : ((k : Int) == (s.size : Int) - 1) = false := beq_eq_false_iff_ne.2 (by omega)
                  rw [if_neg (by rintro (h | h); cases h; exact drop_ne s (k + 1) (by omega) h)] at hR
                  have hR2 := Lib.hid hR
                  clear hR
                  go_wp2_with fail
                  go_round
                  case rel => exact ⟨k + 1, m, false, by omega, by omega, rfl, by go_num, hR2.out⟩
                  case measure => simp [Go.RowKit.intOf]; omega
            · have e47 : ((((s[k]).toNat : Nat) : Int) == 47) = false := GR.byte_no h47
              rw [if_neg h47] at hR
              clear h47
              by_cases h92 : s[k] = 92
              · have e92 : ((((s[k]).toNat : Nat) : Int) == 92) = true := by rw [h92]; rfl
                rw [if_pos h92] at hR
                clear h92
                by_cases hl : k + 1 = s.size
                · have hkl : ((k : Int) == (s.size : Int) - 1) = true := beq_iff_eq.2 (by omega)
                  rw [if_pos (.inl (drop_end s (k + 1) (by omega)))] at hR
                  subst hR
                  go_wp2_with fail
                  go_ret2
                  exact ⟨by rw [HX.out]; rfl, rfl⟩
                · have hkl : ((k : Int) == (s.size : Int) - 1) = false := beq_eq_false_iff_ne.2 (by omega)
                  have hlt2 : k + 1 < s.size := by omega
                  have hz2 : ((k : Int) + 1) < s.size := by omega
                  rw [drop_at s (k + 1) hlt2] at hR
                  by_cases f : s[k + 1] = 47
                  · have f47 : ((((s[k + 1]).toNat : Nat) : Int) == 47) = true := by rw [f]; rfl
                    rw [if_pos (.inr (by rw [f]; rfl))] at hR
                    clear f
                    subst hR
                    go_wp2_with fail
                    go_ret2
                    exact ⟨by rw [HX.out]; rfl, rfl⟩
                  · have f47 : ((((s[k + 1]).toNat : Nat) : Int) == 47) = false := GR.byte_no f
                    rw [if_neg (by rintro (h | h); cases h; exact f (by simpa using h))] at hR
                    clear f
                    have hR2 := Lib.hid hR
                    clear hR
                    go_wp2_with fail
                    go_round
                    case rel => exact ⟨k + 2, m, true, by omega, by omega, rfl, by go_num, hR2.out⟩
                    case measure => simp [Go.RowKit.intOf]; omega
              · have e92 : ((((s[k]).toNat : Nat) : Int) == 92) = false := GR.byte_no h92
                rw [if_neg h92] at hR
                clear h92
                by_cases h91 : s[k] = 91
                · have e91 : ((((s[k]).toNat : Nat) : Int) == 91) = true := by rw [h91]; rfl
                  rw [if_pos h91] at hR
                  clear h91
                  have cC := closing_any s k w hlt (by omega)
                  cases hcl : clL s.data.toList k with
                  | none =>
                    rw [hcl] at hR cC
                    simp only [] at hR
                    clear hcl
                    subst hR
                    go_wp2_with fail
                    refine cC.mono ?_
                    rintro e w' ⟨rfl, rfl⟩
                    clear cC
                    go_wp2_with fail
                    go_ret2
                    exact ⟨by rw [HX.out]; rfl, rfl⟩
                  | some j =>
                    have hj := clL_some hcl
                    rw [← Lib.size_eq] at hj
                    rw [hcl] at hR cC
                    simp only [] at hR
                    have hjz : ¬ (j : Int) < 0 := by omega
                    have hR2 := Lib.hid hR
                    clear hcl hR
                    go_wp2_with fail
                    refine cC.mono ?_
                    rintro e w' ⟨rfl, rfl⟩
                    clear cC
                    have hci : clI (some j) = (j : Int) := rfl
                    rw [hci]
                    go_wp2_with fail
                    go_round
                    case rel => exact ⟨j + 1, m, true, by omega, by omega, rfl, by go_num, hR2.out⟩
                    case measure => simp [Go.RowKit.intOf]; omega
                · have e91 : ((((s[k]).toNat : Nat) : Int) == 91) = false := GR.byte_no h91
                  rw [if_neg h91] at hR
                  clear h91
                  have hR2 := Lib.hid hR
                  clear hR
                  go_wp2_with fail
                  go_round
                  case rel => exact ⟨k + 1, m, true, by omega, by omega, rfl, by go_num, hR2.out⟩
                  case measure => simp [Go.RowKit.intOf]; omega
          · have hz : ¬ (k : Int) < s.size := by omega
            rw [drop_end s k (by omega)] at hR
            simp only [] at hR
            subst hR
            go_wp2_with fail
            go_ret2
            exact ⟨by rw [HX.out]; rfl, rfl⟩
end RG
end Go.Proofs.YtechekdiadpmoaaDoor
end
section
/- Check: the brackets are the same either way. -/
namespace Go.Proofs.YtechekdiadpmoaaDoor
open Go.RowKit Go.Lib
namespace RG
open GP LitN RN
def Tail (z : List UInt8) : Prop := z = [] ∨ z.head? = some 47
theorem dec_cut (x : UInt8) (r : List UInt8) : ∃ c, r = c ++ (x :: r).drop (Lib.decodeL (x :: r)).2 ∧ c.length + 1 = (Lib.decodeL (x :: r)).2 ∧ ∀ b ∈ c, 128 ≤ b.toNat := by
  have hw := Lib.decodeL_width (x :: r)
  have hle := Lib.decodeL_le (x :: r) (by simp)
  obtain ⟨j, hj⟩ : ∃ j, (Lib.decodeL (x :: r)).2 = j + 1 := ⟨(Lib.decodeL (x :: r)).2 - 1, by omega⟩
  refine ⟨r.take j, ?_, ?_, ?_⟩
  · rw [hj, List.drop_succ_cons, List.take_append_drop]
  · rw [hj, List.length_take]
    rw [hj, List.length_cons] at hle
    omega
  · intro b hb
    by_cases h0 : j = 0
    · subst h0; simp at hb
    · have hnb : ¬ ((Lib.decodeL (x :: r)).1 = 65533 ∧ (Lib.decodeL (x :: r)).2 = 1) := fun h => by omega
      have hed := Lib.encode_decode (x :: r) (by simp) hnb
      rw [hj, List.take_succ_cons] at hed
      have hr : 128 ≤ ((Lib.decodeL (x :: r)).1 : Int) := by
        by_cases hlt : ((Lib.decodeL (x :: r)).1 : Int) < 128
        · exfalso
          have h1 := congrArg List.length hed
          unfold Lib.encodeRune at h1
          rw [Lib.encodeRuneZ_one (by omega) (by omega)] at h1
          rw [hj, List.length_cons] at hle
          simp only [List.map_cons, List.map_nil, List.length_cons, List.length_nil, List.length_take] at h1
          omega
        · omega
      exact encode_high _ hr b (by rw [hed]; simp [hb])
theorem clR_tail {z : List UInt8} (h : Tail z) (i fr : Nat) : clR z i fr = none := by
  cases z with
  | nil => exact clR_nil i fr
  | cons x r =>
    rcases h with h | h
    · cases h
    · simp only [List.head?_cons, Option.some.injEq] at h
      rw [clR_cons, if_pos h]
theorem clR_skip : ∀ (c z : List UInt8) (i fr : Nat), (∀ b ∈ c, 128 ≤ b.toNat) → clR (c ++ z) i fr = clR z (i + c.length) fr
  | [], z, i, fr, _ => rfl
  | x :: c, z, i, fr, h => by
    have hx := h x (by simp)
    rw [List.cons_append, clR_cons, if_neg (by rintro rfl; simp at hx), if_neg (by rintro rfl; simp at hx), if_neg (by rintro rfl; simp at hx), clR_skip c z _ _ (fun b hb => h b (by simp [hb])), List.length_cons]
    congr 1
    omega
theorem runeL_back (r : List UInt8) : (runeL (92 :: r)).2 = if r = [] then 0 else (Lib.decodeL r).2 + 1 := by
  unfold runeL
  rw [if_pos (show (92 :: r : List UInt8).head? = some 92 from rfl)]
  show (if 0 < (decL r).2 then (decL r).2 + 1 else 0) = _
  unfold decL
  by_cases h : r = []
  · rw [if_pos h, if_pos h]; rfl
  · rw [if_neg h, if_neg h, if_pos (by have := Lib.decodeL_width r; omega)]
theorem runeL_plain {x : UInt8} (r : List UInt8) (h : x ≠ 92) : runeL (x :: r) = Lib.decodeL (x :: r) := by
  unfold runeL decL
  rw [if_neg (by simpa using h), if_neg (by simp)]
theorem clR_rune {v z : List UInt8} (hne : v ≠ []) (h47 : 47 ∉ v) (h93 : v.head? ≠ some 93) (hz : Tail z) (i fr : Nat) :
    ((runeL v).2 = 0 → clR (v ++ z) i fr = none) ∧ ((runeL v).2 ≠ 0 → clR (v ++ z) i fr = clR (v.drop (runeL v).2 ++ z) (i + (runeL v).2) fr) := by
  obtain ⟨x, r, rfl⟩ := List.exists_cons_of_ne_nil hne
  have hx47 : x ≠ 47 := by rintro rfl; simp at h47
  by_cases h92 : x = 92
  · subst h92
    rw [runeL_back]
    cases r with
    | nil =>
      refine ⟨fun _ => ?_, fun h => absurd rfl h⟩
      rw [List.cons_append, List.nil_append, clR_cons, if_neg (by decide), if_pos rfl]
      cases z with
      | nil => rfl
      | cons y z2 =>
        rcases hz with h | h
        · cases h
        · simp only [List.head?_cons, Option.some.injEq] at h
          simp only [h, if_true]
    | cons y r2 =>
      have hy47 : y ≠ 47 := by rintro rfl; simp at h47
      rw [if_neg (by simp)]
      refine ⟨fun h => by omega, fun _ => ?_⟩
      obtain ⟨c, hc, hcl, hch⟩ := dec_cut y r2
      rw [List.drop_succ_cons, List.cons_append, List.cons_append, clR_cons, if_neg (by decide), if_pos rfl]
      simp only [if_neg hy47]
      generalize hR : (y :: r2).drop (Lib.decodeL (y :: r2)).2 = R at hc ⊢
      generalize (Lib.decodeL (y :: r2)).2 = k at hcl ⊢
      rw [hc, List.append_assoc, clR_skip c _ _ _ hch]
      congr 1
      omega
  · rw [runeL_plain r h92]
    have hw := Lib.decodeL_width (x :: r)
    refine ⟨fun h => by omega, fun _ => ?_⟩
    obtain ⟨c, hc, hcl, hch⟩ := dec_cut x r
    have hx93 : x ≠ 93 := by rintro rfl; simp at h93
    rw [List.cons_append, clR_cons, if_neg hx47, if_neg h92, if_neg hx93]
    generalize hR : (x :: r).drop (Lib.decodeL (x :: r)).2 = R at hc ⊢
    generalize (Lib.decodeL (x :: r)).2 = k at hcl ⊢
    rw [hc, List.append_assoc, clR_skip c _ _ _ hch]
    congr 1
    omega
theorem runeL_zero {v : List UInt8} (hne : v ≠ []) (h : (runeL v).2 = 0) : v.head? = some 92 := by
  obtain ⟨x, r, rfl⟩ := List.exists_cons_of_ne_nil hne
  by_cases h92 : x = 92
  · subst h92; rfl
  · rw [runeL_plain r h92] at h
    have := Lib.decodeL_width (x :: r)
    omega
def brE (o : Option (List Sp × List UInt8)) (i n : Nat) : Option Nat := match o with
  | none => none
  | some (_, r) => some (i + (n - r.length))
theorem brE_drop {v : List UInt8} {acc : List Sp} {k i : Nat} (hk : k ≤ v.length) : brE (brR (v.drop k) acc) (i + k) (v.drop k).length = brE (brR (v.drop k) acc) i v.length := by
  unfold brE
  split
  · rfl
  · rename_i sp r hr
    have h := brGo_rest _ _ _ _ _ hr
    rw [List.length_drop] at h ⊢
    congr 1
    omega
theorem clR_br {z : List UInt8} (hz : Tail z) : ∀ (n : Nat) (v : List UInt8) (acc : List Sp) (i fr : Nat), v.length ≤ n → 47 ∉ v → (acc = [] ↔ i = fr) → fr ≤ i → clR (v ++ z) i fr = brE (brR v acc) i v.length
  | 0, v, acc, i, fr, h, _, _, _ => by
    have : v = [] := List.eq_nil_of_length_eq_zero (by omega)
    subst this
    rw [brR_nil, List.nil_append, clR_tail hz]
    rfl
  | n + 1, v, acc, i, fr, h, h47, hacc, hfr => by
    by_cases hne : v = []
    · subst hne
      rw [brR_nil, List.nil_append, clR_tail hz]
      rfl
    · by_cases h93 : v.head? = some 93
      · rw [brR_end h93]
        obtain ⟨x, r, rfl⟩ := List.exists_cons_of_ne_nil hne
        simp only [List.head?_cons, Option.some.injEq] at h93
        subst h93
        rw [List.cons_append, clR_cons, if_neg (by decide), if_neg (by decide), if_pos rfl]
        by_cases ha : acc = []
        · rw [if_pos ha, if_pos (hacc.1 ha)]
          rfl
        · rw [if_neg ha, if_neg (fun e => ha (hacc.2 e))]
          simp [brE]
      · have hrl := runeL_le v
        have hvl : 0 < v.length := List.length_pos_iff.2 hne
        obtain ⟨c0, c1⟩ := clR_rune hne h47 h93 hz i fr
        have step : ∀ k sp, 1 ≤ k → k ≤ v.length → clR (v ++ z) i fr = clR (v.drop k ++ z) (i + k) fr → clR (v ++ z) i fr = brE (brR (v.drop k) (acc ++ [sp])) i v.length := by
          intro k sp hk1 hk2 he
          rw [he, clR_br hz n (v.drop k) (acc ++ [sp]) (i + k) fr (by rw [List.length_drop]; omega) (fun e => h47 (List.mem_of_mem_drop e)) ⟨fun e => by simp at e, fun e => by omega⟩ (by omega), brE_drop hk2]
        rw [brR_step hne h93]
        by_cases hm : (runeL v).2 = 0
        · have h92 := runeL_zero hne hm
          have hs : (spanL v).2 = 0 := by
            unfold spanL
            rw [hm, List.drop_zero, if_neg (by rw [h92]; simp)]
          rw [if_pos hs, c0 hm]
          rfl
        · have e1 := c1 hm
          by_cases h45 : (v.drop (runeL v).2).head? = some 45
          · obtain ⟨v2, hv2⟩ : ∃ v2, v.drop (runeL v).2 = 45 :: v2 := by
              cases hd : v.drop (runeL v).2 with
              | nil => rw [hd] at h45; cases h45
              | cons y v2 =>
                rw [hd] at h45
                simp only [List.head?_cons, Option.some.injEq] at h45
                subst h45
                exact ⟨v2, rfl⟩
            by_cases hend : v2 = [] ∨ v2.head? = some 93
            · have hs : spanL v = (((runeL v).1, (runeL v).1), (runeL v).2) := by
                unfold spanL
                rw [if_pos h45, hv2]
                exact if_pos hend
              rw [hs, if_neg hm]
              exact step _ _ (by omega) hrl e1
            · have hv2n : v2 ≠ [] := fun e => hend (.inl e)
              have hv293 : v2.head? ≠ some 93 := fun e => hend (.inr e)
              have h47b : 47 ∉ v2 := fun e => h47 (List.mem_of_mem_drop (i := (runeL v).2) (by rw [hv2]; simp [e]))
              rw [hv2, List.cons_append, clR_cons, if_neg (by decide), if_neg (by decide), if_neg (by decide)] at e1
              obtain ⟨d0, d1⟩ := clR_rune hv2n h47b hv293 hz (i + (runeL v).2 + 1) fr
              by_cases hm2 : (runeL v2).2 = 0
              · have hs : (spanL v).2 = 0 := by
                  unfold spanL
                  rw [if_pos h45, hv2]
                  rw [if_neg (show ¬ ((45 :: v2 : List UInt8).tail = [] ∨ (45 :: v2 : List UInt8).tail.head? = some 93) from hend)]
                  rw [if_pos (show (runeL (45 :: v2 : List UInt8).tail).2 = 0 from hm2)]
                rw [if_pos hs, e1, d0 hm2]
                rfl
              · have hs : spanL v = (((runeL v).1, (runeL v2).1), (runeL v).2 + 1 + (runeL v2).2) := by
                  unfold spanL
                  rw [if_pos h45, hv2]
                  rw [if_neg (show ¬ ((45 :: v2 : List UInt8).tail = [] ∨ (45 :: v2 : List UInt8).tail.head? = some 93) from hend)]
                  rw [if_neg (show ¬ (runeL (45 :: v2 : List UInt8).tail).2 = 0 from hm2)]
                  rfl
                have hv2d : v.drop ((runeL v).2 + 1 + (runeL v2).2) = v2.drop (runeL v2).2 := by
                  rw [Nat.add_assoc, ← List.drop_drop, hv2, Nat.add_comm 1, List.drop_succ_cons]
                have hl2 := runeL_le v2
                have hlen : v2.length + 1 + (runeL v).2 = v.length := by
                  have := congrArg List.length hv2
                  rw [List.length_drop, List.length_cons] at this
                  omega
                rw [hs, if_neg (by show (runeL v).2 + 1 + (runeL v2).2 ≠ 0; omega)]
                refine step _ _ (by show 1 ≤ (runeL v).2 + 1 + (runeL v2).2; omega) (by show (runeL v).2 + 1 + (runeL v2).2 ≤ v.length; omega) ?_
                show _ = clR (v.drop ((runeL v).2 + 1 + (runeL v2).2) ++ z) (i + ((runeL v).2 + 1 + (runeL v2).2)) fr
                rw [e1, d1 hm2, hv2d]
                congr 1
                omega
          · have hs : spanL v = (((runeL v).1, (runeL v).1), (runeL v).2) := by
              unfold spanL
              rw [if_neg h45]
            rw [hs, if_neg hm]
            exact step _ _ (by omega) hrl e1
end RG
end Go.Proofs.YtechekdiadpmoaaDoor
namespace Go.Proofs.YtechekdiadpmoaaDoor
open Go.RowKit Go.Lib
namespace RG
open GP LitN RN
theorem drop_one {l y : List UInt8} {x : UInt8} {a : Nat} (h : l.drop a = x :: y) : l.drop (a + 1) = y := by
  rw [← List.drop_drop, h]
  rfl
theorem clL_br {l u z : List UInt8} {a : Nat} (hz : Tail z) (h47 : 47 ∉ u) (h : l.drop a = 91 :: (u ++ z)) :
    clL l a = match brL (91 :: u) with
      | none => none
      | some (_, k) => some (a + k - 1) := by
  have hd := drop_one h
  by_cases h33 : u.head? = some 33
  · obtain ⟨u2, rfl⟩ : ∃ u2, u = 33 :: u2 := by
      cases u with
      | nil => cases h33
      | cons y u2 => simp only [List.head?_cons, Option.some.injEq] at h33; subst h33; exact ⟨u2, rfl⟩
    have hf : clF l a = a + 2 := by unfold clF; rw [hd]; rfl
    have hd2 : l.drop (a + 2) = u2 ++ z := drop_one (a := a + 1) hd
    have hb : brL (91 :: 33 :: u2) = match brR u2 [] with
      | none => none
      | some (sp, rest) => some (.set true sp, (91 :: 33 :: u2).length - rest.length + 1) := rfl
    unfold clL
    rw [hf, hd2, clR_br hz u2.length u2 [] (a + 2) (a + 2) (Nat.le_refl _) (fun e => h47 (by simp [e])) (by simp) (Nat.le_refl _), hb]
    unfold brE
    cases hr : brR u2 [] with
    | none => rfl
    | some p =>
      have hg := brGo_rest _ _ _ _ _ hr
      simp only [List.length_cons, Option.some.injEq]
      omega
  · have hf : clF l a = a + 1 := by
      unfold clF
      rw [hd, if_neg]
      intro e
      cases u with
      | nil =>
        rw [List.nil_append] at e
        rcases hz with hz | hz
        · subst hz; cases e
        · rw [hz] at e; simp at e
      | cons y u2 => exact h33 e
    have hb : brL (91 :: u) = match brR u [] with
      | none => none
      | some (sp, rest) => some (.set false sp, (91 :: u).length - rest.length + 1) := by
      have hi : brIn (91 :: u) = u := by unfold brIn; exact if_neg h33
      have hs : ((91 :: u : List UInt8).tail.head? == some 33) = false := by simpa using h33
      unfold brL
      rw [hi, hs]
      cases brR u [] <;> rfl
    unfold clL
    rw [hf, hd, clR_br hz u.length u [] (a + 1) (a + 1) (Nat.le_refl _) h47 (by simp) (Nat.le_refl _), hb]
    unfold brE
    cases hr : brR u [] with
    | none => rfl
    | some p =>
      have hg := brGo_rest _ _ _ _ _ hr
      simp only [List.length_cons, Option.some.injEq]
      omega
theorem ckG_skip : ∀ (c y : List UInt8) (l : List UInt8) (a m : Nat), l.drop a = c ++ y → (∀ b ∈ c, 128 ≤ b.toNat) → ckG (c.length + m) l a true = ckG m l (a + c.length) true
  | [], y, l, a, m, _, _ => by simp
  | x :: c, y, l, a, m, h, hc => by
    have hx := hc x (by simp)
    have e : (x :: c).length + m = (c.length + m) + 1 := by simp; omega
    rw [e, ckG, h, List.cons_append]
    simp only []
    rw [if_neg (by rintro rfl; simp at hx), if_neg (by rintro rfl; simp at hx), if_neg (by rintro rfl; simp at hx), ckG_skip c y l (a + 1) m (drop_one h) (fun b hb => hc b (by simp [hb]))]
    congr 1
    simp
    omega
theorem skip_more {c y l : List UInt8} {a n : Nat} (h : l.drop a = c ++ y) (hc : ∀ b ∈ c, 128 ≤ b.toNat) (hn : l.length < a + n) : ∃ m, l.length < a + c.length + m ∧ ckG n l a true = ckG m l (a + c.length) true := by
  have hl := congrArg List.length h
  rw [List.length_drop, List.length_append] at hl
  obtain ⟨m, rfl⟩ : ∃ m, n = c.length + m := ⟨n - c.length, by omega⟩
  exact ⟨m, by omega, ckG_skip c y l a m h hc⟩
def ElStep (l : List UInt8) (a m : Nat) (b : Bool) (o : Option (El × Nat)) : Prop := match o with
  | none => ckG (m + 1) l a b = some a
  | some (_, k) => ∃ m', l.length < a + k + m' ∧ ckG (m + 1) l a b = ckG m' l (a + k) true
theorem el_step {l u z : List UInt8} {a m : Nat} (b : Bool) (hne : u ≠ []) (hz : Tail z) (h47 : 47 ∉ u) (h : l.drop a = u ++ z) (hm : l.length < a + (m + 1)) : ElStep l a m b (elL u) := by
  obtain ⟨x, r, rfl⟩ := List.exists_cons_of_ne_nil hne
  rw [List.cons_append] at h
  have hx47 : x ≠ 47 := by rintro rfl; simp at h47
  have h47r : 47 ∉ r := fun e => h47 (by simp [e])
  have hd := drop_one h
  by_cases h42 : x = 42
  · subst h42
    exact ⟨m, by omega, by rw [ckG, h]; rfl⟩
  · by_cases h63 : x = 63
    · subst h63
      exact ⟨m, by omega, by rw [ckG, h]; rfl⟩
    · by_cases h91 : x = 91
      · subst h91
        have he : elL (91 :: r) = brL (91 :: r) := rfl
        rw [he]
        have hc := clL_br hz h47r h
        unfold ElStep
        cases hb : brL (91 :: r) with
        | none =>
          rw [hb] at hc
          simp only [] at hc
          show ckG (m + 1) l a b = some a
          rw [ckG, h]
          simp only []
          rw [if_neg (by decide), if_neg (by decide), if_pos trivial, hc]
        | some p =>
          obtain ⟨e, k⟩ := p
          have hk := brL_le (by simp) hb
          rw [hb] at hc
          simp only [] at hc
          refine ⟨m, by omega, ?_⟩
          rw [ckG, h]
          simp only []
          rw [if_neg (by decide), if_neg (by decide), if_pos trivial, hc]
          simp only []
          congr 1
          omega
      · have he : elL (x :: r) = if (runeL (x :: r)).2 = 0 then none else some (.set false [((runeL (x :: r)).1, (runeL (x :: r)).1)], (runeL (x :: r)).2) := by
          unfold elL
          rw [if_neg (by simpa using h42), if_neg (by simpa using h63), if_neg (by simpa using h91)]
        rw [he]
        by_cases h92 : x = 92
        · subst h92
          rw [runeL_back]
          cases r with
          | nil =>
            rw [if_pos (by rfl)]
            show ckG (m + 1) l a b = some a
            rw [ckG, h]
            simp only [List.nil_append]
            rw [if_neg (by decide), if_pos trivial, if_pos (show z = [] ∨ z.head? = some 47 from hz)]
          | cons y r2 =>
            have hy47 : y ≠ 47 := by rintro rfl; simp at h47
            rw [if_neg (by simp), if_neg (by simp)]
            obtain ⟨c, hc, hcl, hch⟩ := dec_cut y r2
            have hd2 : l.drop (a + 2) = r2 ++ z := drop_one (a := a + 1) hd
            rw [hc, List.append_assoc] at hd2
            obtain ⟨m', h1, h2⟩ := skip_more (n := m) hd2 hch (by omega)
            refine ⟨m', by omega, ?_⟩
            rw [ckG, h]
            simp only []
            rw [if_neg (by decide), if_pos trivial, if_neg (by simpa using hy47), h2]
            congr 1
            omega
        · rw [runeL_plain r h92]
          have hw := Lib.decodeL_width (x :: r)
          rw [if_neg (by omega)]
          obtain ⟨c, hc, hcl, hch⟩ := dec_cut x r
          have hd1 := hd
          generalize hR : (x :: r).drop (Lib.decodeL (x :: r)).2 = R at hc
          rw [hc, List.append_assoc] at hd1
          obtain ⟨m', h1, h2⟩ := skip_more (n := m) hd1 hch (by omega)
          refine ⟨m', by omega, ?_⟩
          rw [ckG, h]
          simp only []
          rw [if_neg hx47, if_neg h92, if_neg h91, h2]
          congr 1
          omega
def PtStep (l : List UInt8) (a n : Nat) (b : Bool) (u : List UInt8) (rel : Nat) (o : Except Nat (List El)) : Prop := match o with
  | .error k => ∃ j, k = rel + j ∧ j < u.length ∧ ckG n l a b = some (a + j)
  | .ok _ => ∃ n', l.length < a + u.length + n' ∧ ckG n l a b = ckG n' l (a + u.length) (if u = [] then b else true)
theorem pt_step {l z : List UInt8} (hz : Tail z) : ∀ (q : Nat) (u : List UInt8) (a n rel : Nat) (b : Bool) (acc : List El), u.length ≤ q → 47 ∉ u → l.drop a = u ++ z → l.length < a + n → PtStep l a n b u rel (ptR u rel acc)
  | 0, u, a, n, rel, b, acc, h, _, _, hn => by
    have : u = [] := List.eq_nil_of_length_eq_zero (by omega)
    subst this
    rw [ptR_nil]
    exact ⟨n, hn, rfl⟩
  | q + 1, u, a, n, rel, b, acc, h, h47, hd, hn => by
    by_cases hne : u = []
    · subst hne
      rw [ptR_nil]
      exact ⟨n, hn, rfl⟩
    · have hul : 0 < u.length := List.length_pos_iff.2 hne
      have hdl := congrArg List.length hd
      rw [List.length_drop, List.length_append] at hdl
      obtain ⟨m, rfl⟩ : ∃ m, n = m + 1 := ⟨n - 1, by omega⟩
      have hs := el_step b hne hz h47 hd hn
      rw [ptR_step hne]
      cases he : elL u with
      | none =>
        rw [he] at hs
        exact ⟨0, rfl, hul, hs⟩
      | some p =>
        obtain ⟨e, k⟩ := p
        rw [he] at hs
        obtain ⟨m', h1, h2⟩ := hs
        have hk := elL_le hne he
        have hd2 : l.drop (a + k) = u.drop k ++ z := by rw [← List.drop_drop, hd, List.drop_append_of_le_length hk.2]
        have ih := pt_step hz q (u.drop k) (a + k) m' (rel + k) true (acc ++ [e]) (by rw [List.length_drop]; omega) (fun x => h47 (List.mem_of_mem_drop x)) hd2 h1
        show PtStep l a (m + 1) b u rel (ptR (u.drop k) (rel + k) (acc ++ [e]))
        unfold PtStep at ih ⊢
        cases hp : ptR (u.drop k) (rel + k) (acc ++ [e]) with
        | error f =>
          rw [hp] at ih
          obtain ⟨j, hj1, hj2, hj3⟩ := ih
          rw [List.length_drop] at hj2
          exact ⟨k + j, by omega, by omega, by rw [h2, hj3]; congr 1; omega⟩
        | ok es =>
          rw [hp] at ih
          obtain ⟨n', hn1, hn2⟩ := ih
          rw [List.length_drop] at hn1 hn2
          have hif : (if u.drop k = [] then true else true) = true := by split <;> rfl
          rw [hif] at hn2
          refine ⟨n', by omega, ?_⟩
          rw [h2, hn2, if_neg hne]
          congr 1
          omega
theorem cut_first : ∀ l : List UInt8, ∃ t z, l = t ++ z ∧ 47 ∉ t ∧ ((z = [] ∧ NP.cutOn l = [t]) ∨ ∃ r, z = 47 :: r ∧ NP.cutOn l = t :: NP.cutOn r)
  | [] => ⟨[], [], rfl, by simp, .inl ⟨rfl, rfl⟩⟩
  | x :: l => by
    by_cases hx : x = 47
    · subst hx
      exact ⟨[], 47 :: l, rfl, by simp, .inr ⟨l, rfl, by rw [NP.cutOn, if_pos rfl]⟩⟩
    · obtain ⟨t, z, h1, h2, h3⟩ := cut_first l
      refine ⟨x :: t, z, by rw [h1]; rfl, by simp [Ne.symm hx, h2], ?_⟩
      rcases h3 with ⟨h3, h4⟩ | ⟨r, h3, h4⟩
      · exact .inl ⟨h3, by rw [NP.cutOn, if_neg hx, h4]⟩
      · exact .inr ⟨r, h3, by rw [NP.cutOn, if_neg hx, h4]⟩
def psE (n : Nat) (o : Except Nat (List Pt)) : Option Nat := match o with
  | .error k => some (min k (n - 1))
  | .ok _ => none
theorem ps_step {l : List UInt8} : ∀ (q : Nat) (r : List UInt8) (a n : Nat) (acc : List Pt), r.length ≤ q → r ≠ [] → l.drop a = r → l.length < a + n → ckG n l a false = psE l.length (psR (NP.cutOn r) a acc)
  | 0, r, _, _, _, h, hne, _, _ => absurd (List.eq_nil_of_length_eq_zero (by omega)) hne
  | q + 1, r, a, n, acc, h, hne, hd, hn => by
    have hrl : 0 < r.length := List.length_pos_iff.2 hne
    have hdl := congrArg List.length hd
    rw [List.length_drop] at hdl
    obtain ⟨t, z, h1, h47, h3⟩ := cut_first r
    have hz : Tail z := by
      rcases h3 with ⟨h3, _⟩ | ⟨r2, h3, _⟩
      · exact .inl h3
      · exact .inr (by rw [h3]; rfl)
    have hd1 : l.drop a = t ++ z := by rw [hd, h1]
    obtain ⟨ts, hts⟩ : ∃ ts, NP.cutOn r = t :: ts := by
      rcases h3 with ⟨_, h4⟩ | ⟨r2, _, h4⟩ <;> exact ⟨_, h4⟩
    rw [hts, psR]
    by_cases ht : t = []
    · subst ht
      have hp : ptL [] = .error 0 := rfl
      rw [hp]
      rcases h3 with ⟨h3, _⟩ | ⟨r2, h3, _⟩
      · subst h3; exact absurd h1 hne
      · rw [h3, List.nil_append] at hd1
        obtain ⟨m, rfl⟩ : ∃ m, n = m + 1 := ⟨n - 1, by omega⟩
        rw [ckG, hd1]
        simp only []
        rw [if_pos trivial, if_pos (.inl (by first | rfl | trivial))]
        show some a = some (min (a + 0) (l.length - 1))
        congr 1
        omega
    · have htl : 0 < t.length := List.length_pos_iff.2 ht
      have hlt : a + t.length + z.length = l.length := by
        have := congrArg List.length hd1
        rw [List.length_drop, List.length_append] at this
        omega
      have hs := pt_step hz t.length t a n 0 false [] (Nat.le_refl _) h47 hd1 hn
      have key : ∀ p, (∃ n', l.length < a + t.length + n' ∧ ckG n l a false = ckG n' l (a + t.length) (if t = [] then false else true)) → ckG n l a false = psE l.length (psR ts (a + (t.length + 1)) (acc ++ [p])) := by
        rintro p ⟨n', hn1, hn2⟩
        rw [if_neg ht] at hn2
        rw [hn2]
        have hdt : l.drop (a + t.length) = z := by rw [← List.drop_drop, hd1, List.drop_append_of_le_length (Nat.le_refl _), List.drop_length, List.nil_append]
        obtain ⟨m, rfl⟩ : ∃ m, n' = m + 1 := ⟨n' - 1, by omega⟩
        rcases h3 with ⟨h3, h4⟩ | ⟨r2, h3, h4⟩
        · have : ts = [] := by rw [h4] at hts; simpa using hts.symm
          subst this
          rw [ckG, hdt, h3]
          rfl
        · have : ts = NP.cutOn r2 := by rw [h4] at hts; simpa using hts.symm
          subst this
          rw [ckG, hdt, h3]
          simp only []
          rw [if_pos trivial]
          rw [h3] at hdt hlt
          rw [List.length_cons] at hlt
          by_cases hr2 : r2 = []
          · subst hr2
            rw [if_pos (.inr rfl)]
            show some (a + t.length) = some (min (a + (t.length + 1) + 0) (l.length - 1))
            rw [List.length_nil] at hlt
            congr 1
            omega
          · rw [if_neg (by rintro (e | e); cases e; exact hr2 e)]
            have hd2 := drop_one hdt
            have := congrArg List.length h1
            rw [List.length_append, h3, List.length_cons] at this
            exact ps_step q r2 (a + t.length + 1) m (acc ++ [p]) (by omega) hr2 hd2 (by omega)
      unfold ptL
      rw [if_neg ht]
      by_cases h2 : t = [42, 42]
      · rw [if_pos h2]
        subst h2
        exact key .stars hs
      · rw [if_neg h2]
        unfold PtStep at hs
        cases hp : ptR t 0 [] with
        | error k =>
          rw [hp] at hs
          obtain ⟨j, hj1, hj2, hj3⟩ := hs
          rw [hj3]
          show some (a + j) = some (min (a + k) (l.length - 1))
          congr 1
          omega
        | ok es =>
          rw [hp] at hs
          exact key (.one es) hs
/-- Check answers as the document says. -/
theorem chk_eq (l : List UInt8) : rchkL l = GH.chkL l := by
  unfold rchkL GH.chkL patL
  by_cases h0 : l = [] ∨ 400 < l.length
  · rw [if_pos h0, if_pos h0]
  · rw [if_neg h0, if_neg h0]
    cases hs : spR l 0 with
    | some k => rfl
    | none =>
      have hne : l ≠ [] := fun e => h0 (.inl e)
      have h := ps_step l.length l 0 (l.length + 1) [] (Nat.le_refl _) hne rfl (by omega)
      simp only []
      rw [h]
      cases hp : psR (NP.cutOn l) 0 [] with
      | error k => rfl
      | ok ps => rfl
end RG
end Go.Proofs.YtechekdiadpmoaaDoor
end
section
/- Rules, of the code and of the document. -/
namespace Go.Proofs.YtechekdiadpmoaaDoor
open Go.RowKit Go.Lib
namespace GI
open GP GM GH NF
def ruE : List Rl → Nat → Nat × Nat
  | [], _ => (0, 0)
  | r :: rs, i => if (chkL r.2.data.toList).2 = 0 then ruE rs (i + 1) else (i, (chkL r.2.data.toList).2)
def rulesL (rs : List Rl) : Nat × Nat := if 100 < rs.length then (0, 2) else ruE rs 0
theorem rs_drop {rs : List Rl} {k : Nat} {r : Rl} (h : rs[k]? = some r) : rs.drop k = r :: rs.drop (k + 1) := by
  obtain ⟨h1, h2⟩ := List.getElem?_eq_some_iff.1 h
  rw [List.drop_eq_getElem_cons h1, h2]
end GI
end Go.Proofs.YtechekdiadpmoaaDoor
end
section
/- The document's answer: last, Ignored; from what Match answers. -/
namespace Go.Proofs.YtechekdiadpmoaaDoor
open Go.RowKit Go.Lib
namespace GI
open GP GM GH NF NC RQ RT
/-- What is still to be proved of the reference's Match. -/
def MatchSaid : Prop := ∀ (p q : ByteArray) (W : World), p.size ≤ maxLen → q.size ≤ 1048576 → Calls Tryd.prog 35 #[.string p, .string q] W (fun e w' => e = .returned (.bool (matL p.data.toList q.data.toList)) ∧ Below W.heap.size W w')
def lastG (rs : List Rl) (q : List UInt8) (b : Bool) : Bool := rs.foldl (fun b r => if matL r.2.data.toList q = true then r.1 else b) b
theorem lastG_snoc {rs : List Rl} {k : Nat} {r : Rl} (h : rs[k]? = some r) (q : List UInt8) (b : Bool) : lastG (rs.take (k + 1)) q b = if matL r.2.data.toList q = true then r.1 else lastG (rs.take k) q b := by
  unfold lastG
  rw [List.take_add_one, h, List.foldl_append]
  rfl
theorem last_word : ∀ (rs : List Rl) (q : List UInt8) (b : Bool), NP.pathL q = true → lastG rs q b = lwFrom b (rdL rs) (NP.cutOn q)
  | [], _, _, _ => rfl
  | r :: rs, q, b, hq => by
    have ih := fun b => last_word rs q b hq
    have e : rdL (r :: rs) = rdL [r] ++ rdL rs := rdL_app [r] rs
    rw [e, rdL_one, lwFrom_app]
    show lastG rs q (if matL r.2.data.toList q = true then r.1 else b) = _
    rw [ih]
    congr 1
    unfold matL
    rw [names_yes hq]
    cases hp : patL r.2.data.toList with
    | error f => rfl
    | ok ps =>
      simp only [decide_eq_true (NP.cutOn_ne q), Bool.true_and]
      rfl
theorem ignN_snoc (ws : List Wd) (ns : List (List UInt8)) (x : List UInt8) : ignN ws (ns ++ [x]) = (ignN ws ns || lwL ws (ns ++ [x])) := by
  cases h : ignN ws ns
  · rw [ign_word h]; rfl
  · rw [ignN_pre h]; rfl
def upN (p : List UInt8) : List (List UInt8) := if p = [] then [] else NP.cutOn p
theorem ign_up {ws : List Wd} {p : List UInt8} (hp : NP.pathL p = true) : ignN ws (upN p) = (ignN ws (upN (NP.upL p)) || lwL ws (NP.cutOn p)) := by
  have hne : p ≠ [] := by
    rintro rfl
    revert hp
    decide
  have h1 : upN p = NP.cutOn p := by unfold upN; rw [if_neg hne]
  rw [h1]
  by_cases hu : NP.upL p = []
  · have hl := up_none hp hu
    obtain ⟨x, hx⟩ := List.length_eq_one_iff.1 hl
    have h2 : upN (NP.upL p) = [] := by unfold upN; rw [if_pos hu]
    rw [h2, hx]
    exact ignN_snoc ws [] x
  · obtain ⟨_, h4, _⟩ := up_path hp hu
    have h2 : upN (NP.upL p) = NP.cutOn (NP.upL p) := by unfold upN; rw [if_neg hu]
    rw [h2, h4]
    exact ignN_snoc ws _ _
end GI
end Go.Proofs.YtechekdiadpmoaaDoor
end
section
/- The document's answer: a text's runes. -/
namespace Go.Proofs.YtechekdiadpmoaaDoor
open Go.RowKit Go.Lib
namespace RG
def conB (b : UInt8) : Bool := decide (128 ≤ b.toNat) && decide (b.toNat ≤ 191)
def rnGo : Nat → List UInt8 → List (List UInt8)
  | 0, _ => []
  | _ + 1, [] => []
  | n + 1, x :: r => (x :: r.takeWhile conB) :: rnGo n (r.dropWhile conB)
theorem dropWhile_len (p : UInt8 → Bool) (r : List UInt8) : (r.dropWhile p).length ≤ r.length := (List.dropWhile_suffix p).length_le
theorem rnGo_fuel : ∀ (n m : Nat) (l : List UInt8), l.length ≤ n → l.length ≤ m → rnGo n l = rnGo m l
  | 0, m, l, h, _ => by
    have : l = [] := List.eq_nil_of_length_eq_zero (by omega)
    subst this
    cases m <;> rfl
  | n + 1, 0, l, _, h => by
    have : l = [] := List.eq_nil_of_length_eq_zero (by omega)
    subst this
    rfl
  | n + 1, m + 1, l, hn, hm => by
    cases l with
    | nil => rfl
    | cons x r =>
      rw [List.length_cons] at hn hm
      have := dropWhile_len conB r
      rw [rnGo, rnGo, rnGo_fuel n m _ (by omega) (by omega)]
def rnL (l : List UInt8) : List (List UInt8) := rnGo l.length l
theorem rnL_cons (x : UInt8) (r : List UInt8) : rnL (x :: r) = (x :: r.takeWhile conB) :: rnL (r.dropWhile conB) := by
  have := dropWhile_len conB r
  unfold rnL
  rw [List.length_cons, rnGo, rnGo_fuel r.length _ _ (by omega) (Nat.le_refl _)]
def StrsAt (w : World) (ao : Option Addr) (xs : List ByteArray) : Prop := 0 < xs.length → ∃ g o, ao = some ⟨g, o, none⟩ ∧ GH.NamesAt w g o xs
def RunesPost (s : ByteArray) (w : World) (e : Ending) (w' : World) : Prop := ∃ (ao : Option Addr) (c : Nat) (xs : List ByteArray), e = .returned (.slice ao xs.length c) ∧ xs.length ≤ c ∧ (ao = none → xs = [] ∧ c = 0) ∧ c ≤ maxLen ∧
  xs.map (·.data.toList) = rnL s.data.toList ∧ (∀ x ∈ xs, x.size ≤ s.size) ∧ StrsAt w' ao xs ∧ Below w.heap.size w w'
structure Cut (s : ByteArray) (k n : Nat) : Prop where
  le : k + n ≤ s.size
  lo : 1 ≤ n
  tw : (s.data.toList.drop (k + 1)).takeWhile conB = (s.data.toList.drop (k + 1)).take (n - 1) ++ (s.data.toList.drop (k + n)).takeWhile conB
  dw : (s.data.toList.drop (k + 1)).dropWhile conB = (s.data.toList.drop (k + n)).dropWhile conB
theorem Cut.start {s : ByteArray} {k : Nat} (h : k < s.size) : Cut s k 1 := ⟨by omega, Nat.le_refl _, by simp, rfl⟩
theorem Cut.more {s : ByteArray} {k n : Nat} (h : Cut s k n) (hl : k + n < s.size) (hc : conB s[k + n] = true) : Cut s k (n + 1) := by
  have h1 := h.lo
  have hd := drop_at s (k + n) hl
  refine ⟨by omega, by omega, ?_, ?_⟩
  · rw [h.tw, hd, List.takeWhile_cons, hc]
    have e : (s.data.toList.drop (k + 1)).take (n + 1 - 1) = (s.data.toList.drop (k + 1)).take (n - 1) ++ [s[k + n]] := by
      obtain ⟨m, rfl⟩ : ∃ m, n = m + 1 := ⟨n - 1, by omega⟩
      rw [Nat.add_sub_cancel, Nat.add_sub_cancel, List.take_add_one, List.getElem?_drop]
      have e2 : k + 1 + m = k + (m + 1) := by omega
      rw [e2, Lib.data_getElem? s (k + (m + 1)) hl]
      rfl
    rw [e, List.append_assoc]
    rfl
  · rw [h.dw, hd, List.dropWhile_cons, hc]
    rfl
theorem Cut.stop {s : ByteArray} {k n : Nat} (h : Cut s k n) (he : s.size ≤ k + n ∨ ∃ hl : k + n < s.size, conB s[k + n] = false) : rnL (s.data.toList.drop k) = (s.extract k (k + n)).data.toList :: rnL (s.data.toList.drop (k + n)) := by
  have h1 := h.lo
  have h2 := h.le
  have hk : k < s.size := by omega
  have ht : (s.data.toList.drop (k + n)).takeWhile conB = [] ∧ (s.data.toList.drop (k + n)).dropWhile conB = s.data.toList.drop (k + n) := by
    rcases he with he | ⟨hl, hc⟩
    · rw [drop_end s (k + n) he]
      exact ⟨rfl, rfl⟩
    · rw [drop_at s (k + n) hl, List.takeWhile_cons, List.dropWhile_cons, hc]
      exact ⟨rfl, rfl⟩
  rw [drop_at s k hk, rnL_cons, h.tw, h.dw, ht.1, ht.2, List.append_nil, RP.piece_data, Nat.add_sub_cancel_left, drop_at s k hk]
  obtain ⟨m, rfl⟩ : ∃ m, n = m + 1 := ⟨n - 1, by omega⟩
  rfl
theorem row_view {B : Nat} {wr : World} {v : Value} {done : List ByteArray} (ho : wr.ownsRow B 9 1 v done.length (done.map Value.string)) :
    ∃ (ao : Option Addr) (c : Nat), v = .slice ao done.length c ∧ done.length ≤ c ∧ (ao = none → done = [] ∧ c = 0) ∧ c ≤ maxLen ∧ StrsAt wr ao done := by
  rcases ho.2 with ⟨hv, h0⟩ | ⟨g, cap, cur, hv, hb, hg, hle, hcap, _⟩
  · have : done = [] := List.eq_nil_of_length_eq_zero h0
    subst this
    exact ⟨none, 0, hv, Nat.le_refl _, fun _ => ⟨rfl, rfl⟩, Nat.zero_le _, fun h => by simp at h⟩
  · subst hv
    refine ⟨_, cap, rfl, hle, (fun h => by cases h), hcap, fun _ => ⟨g, 0, rfl, (Array.getElem?_eq_some_iff.1 hg).1, fun j x hx => ?_⟩⟩
    have hj : j < done.length := (List.getElem?_eq_some_iff.1 hx).1
    rw [Nat.zero_add, ho.cellAt j (by omega), List.getElem?_map, hx]
    rfl
set_option maxRecDepth 100000 in
set_option maxHeartbeats 1600000 in
theorem runes_any (s : ByteArray) (w : World) (hs : s.size ≤ 1048576) :
    Calls Tryd.prog 60 #[.string s] w (RunesPost s w) := by
  obtain ⟨i0, hi, hz0, hz1, hz2⟩ := info_parts RP.infoS
  go_enter Tryd.func60, Tryd.ntmps60
  go_wp2_with fail
  go_loopw [3, 4] (fun s3 s4 wr => ∃ (k : Nat) (done : List ByteArray), k ≤ s.size ∧ s4 = .int .i64 k ∧ wr.ownsRow w.heap.size 9 1 s3 done.length (done.map Value.string) ∧ Below w.heap.size w wr ∧ done.length ≤ k ∧ done.map (·.data.toList) ++ rnL (s.data.toList.drop k) = rnL s.data.toList ∧ (∀ x ∈ done, x.size ≤ s.size)) (fun _ s4 _ => s.size - (Go.RowKit.intOf s4).toNat)
  case atStart => exact ⟨0, [], Nat.zero_le _, rfl, World.ownsRow_nil _ _ _ _, Below.refl _ _, Nat.le_refl _, rfl, by simp⟩
  case round =>
    obtain ⟨k, done, hk, rfl, hown, hb, hdl, heq, hsz⟩ := hrel
    have HO := Lib.hid hown
    have HB := Lib.hid hb
    have HS := Lib.hid hsz
    have HE := Lib.hid heq
    have hbs : w.heap.size ≤ wr.heap.size := hb.size
    clear hown hb hsz heq
    by_cases hlt : k < s.size
    · have hz : (k : Int) < s.size := by omega
      have hst := Cut.start hlt
      have HST := Lib.hid hst
      clear hst
      go_wp2_with fail
      go_loop [5] (fun s5 => ∃ n : Nat, s5 = .int .i64 n ∧ Cut s k n) (fun s5 => s.size - (Go.RowKit.intOf s5).toNat)
      case atStart => exact ⟨1, rfl, HST.out⟩
      case round =>
        obtain ⟨n, rfl, hc⟩ := hrel
        have HC := Lib.hid hc
        have hle := hc.le
        have hlo := hc.lo
        clear hc
        by_cases hl : k + n < s.size
        · have hlz : ((k : Int) + n) < s.size := by omega
          by_cases c1 : 128 ≤ (s[k + n]).toNat
          · have f1 : (128 : Int) ≤ ((s[k + n]).toNat : Nat) := by omega
            by_cases c2 : (s[k + n]).toNat ≤ 191
            · have f2 : (((s[k + n]).toNat : Nat) : Int) ≤ 191 := by omega
              have HM := Lib.hid (HC.out.more hl (by unfold conB; simp [c1, c2]))
              clear c1 c2
              go_wp2_with fail
              go_round
              case rel => exact ⟨n + 1, by go_num, HM.out⟩
              case measure => simp [Go.RowKit.intOf]; omega
            · have f2 : ¬ (((s[k + n]).toNat : Nat) : Int) ≤ 191 := by omega
              have hex : s.size ≤ k + n ∨ ∃ hl : k + n < s.size, conB s[k + n] = false := .inr ⟨hl, by unfold conB; simp [c2]⟩
              clear c1 c2
              have HN : Hid ((done ++ [s.extract k (k + n)]).map (·.data.toList) ++ rnL (s.data.toList.drop (k + n)) = rnL s.data.toList) := Lib.hid (by
                rw [← HE.out, HC.out.stop hex, List.map_append, List.append_assoc]
                rfl)
              have hall : ∀ x ∈ done ++ [s.extract k (k + n)], x.size ≤ s.size := by
                intro x hx
                rcases List.mem_append.1 hx with hx | hx
                · exact HS.out x hx
                · simp only [List.mem_singleton] at hx
                  subst hx
                  rw [ByteArray.size_extract]; omega
              have Hall := Lib.hid hall
              have g1 : (k : Int) ≤ (k : Int) + n := by omega
              have g2 : (k : Int) + n ≤ s.size := by omega
              clear hall hex
              go_wp2_with (first | (at_builtin; refine wpList_append_own _ rfl _ _ 84 rfl w.heap.size 9 i0 (.string ByteArray.empty) 1 16 Tryd.underlying84 hi hz0 hz1 hz2 rfl (by decide) _ _ _ rfl (HO.out.alloc _) ⟨wr.heap.size, 0, none⟩ 1 1 [.string (s.extract k (k + n))] rfl rfl (RP.one_new _ _ _) (fun x hx => by simp at hx; subst hx; rfl) (by unfold maxLen; omega) (by omega) (by simp; omega) ?_; intro v' w3 hown' hgrow3 hnil3))
              have hown2 : w3.ownsRow w.heap.size 9 1 v' (done ++ [s.extract k (k + n)]).length ((done ++ [s.extract k (k + n)]).map Value.string) := by
                rw [List.length_append, List.map_append]; exact hown'
              have HO2 := Lib.hid hown2
              have HB2 := Lib.hid ((HB.out.alloc hbs (.cells #[.string (s.extract k (k + n))] 9)).grown hgrow3 (by simp; omega) (fun j hj => (HO.out.lt j hj).1))
              clear hown' hgrow3 hnil3 hown2
              go_wp2
              go_roundw
              case rel => exact ⟨k + n, done ++ [s.extract k (k + n)], by omega, by go_num, HO2.out, HB2.out, by simp; omega, HN.out, Hall.out⟩
              case measure => simp [Go.RowKit.intOf]; omega
          · have f1 : ¬ (128 : Int) ≤ ((s[k + n]).toNat : Nat) := by omega
            have hex : s.size ≤ k + n ∨ ∃ hl : k + n < s.size, conB s[k + n] = false := .inr ⟨hl, by unfold conB; simp [c1]⟩
            clear c1
            have HN : Hid ((done ++ [s.extract k (k + n)]).map (·.data.toList) ++ rnL (s.data.toList.drop (k + n)) = rnL s.data.toList) := Lib.hid (by
              rw [← HE.out, HC.out.stop hex, List.map_append, List.append_assoc]
              rfl)
            have hall : ∀ x ∈ done ++ [s.extract k (k + n)], x.size ≤ s.size := by
              intro x hx
              rcases List.mem_append.1 hx with hx | hx
              · exact HS.out x hx
              · simp only [List.mem_singleton] at hx
                subst hx
                rw [ByteArray.size_extract]; omega
            have Hall := Lib.hid hall
            have g1 : (k : Int) ≤ (k : Int) + n := by omega
            have g2 : (k : Int) + n ≤ s.size := by omega
            clear hall hex
            go_wp2_with (first | (at_builtin; refine wpList_append_own _ rfl _ _ 84 rfl w.heap.size 9 i0 (.string ByteArray.empty) 1 16 Tryd.underlying84 hi hz0 hz1 hz2 rfl (by decide) _ _ _ rfl (HO.out.alloc _) ⟨wr.heap.size, 0, none⟩ 1 1 [.string (s.extract k (k + n))] rfl rfl (RP.one_new _ _ _) (fun x hx => by simp at hx; subst hx; rfl) (by unfold maxLen; omega) (by omega) (by simp; omega) ?_; intro v' w3 hown' hgrow3 hnil3))
            have hown2 : w3.ownsRow w.heap.size 9 1 v' (done ++ [s.extract k (k + n)]).length ((done ++ [s.extract k (k + n)]).map Value.string) := by
              rw [List.length_append, List.map_append]; exact hown'
            have HO2 := Lib.hid hown2
            have HB2 := Lib.hid ((HB.out.alloc hbs (.cells #[.string (s.extract k (k + n))] 9)).grown hgrow3 (by simp; omega) (fun j hj => (HO.out.lt j hj).1))
            clear hown' hgrow3 hnil3 hown2
            go_wp2
            go_roundw
            case rel => exact ⟨k + n, done ++ [s.extract k (k + n)], by omega, by go_num, HO2.out, HB2.out, by simp; omega, HN.out, Hall.out⟩
            case measure => simp [Go.RowKit.intOf]; omega
        · have hlz : ¬ ((k : Int) + n) < s.size := by omega
          have hex : s.size ≤ k + n ∨ ∃ hl : k + n < s.size, conB s[k + n] = false := .inl (by omega)
          have HN : Hid ((done ++ [s.extract k (k + n)]).map (·.data.toList) ++ rnL (s.data.toList.drop (k + n)) = rnL s.data.toList) := Lib.hid (by
            rw [← HE.out, HC.out.stop hex, List.map_append, List.append_assoc]
            rfl)
          have hall : ∀ x ∈ done ++ [s.extract k (k + n)], x.size ≤ s.size := by
            intro x hx
            rcases List.mem_append.1 hx with hx | hx
            · exact HS.out x hx
            · simp only [List.mem_singleton] at hx
              subst hx
              rw [ByteArray.size_extract]; omega
          have Hall := Lib.hid hall
          have g1 : (k : Int) ≤ (k : Int) + n := by omega
          have g2 : (k : Int) + n ≤ s.size := by omega
          clear hall hex
          go_wp2_with (first | (at_builtin; refine wpList_append_own _ rfl _ _ 84 rfl w.heap.size 9 i0 (.string ByteArray.empty) 1 16 Tryd.underlying84 hi hz0 hz1 hz2 rfl (by decide) _ _ _ rfl (HO.out.alloc _) ⟨wr.heap.size, 0, none⟩ 1 1 [.string (s.extract k (k + n))] rfl rfl (RP.one_new _ _ _) (fun x hx => by simp at hx; subst hx; rfl) (by unfold maxLen; omega) (by omega) (by simp; omega) ?_; intro v' w3 hown' hgrow3 hnil3))
          have hown2 : w3.ownsRow w.heap.size 9 1 v' (done ++ [s.extract k (k + n)]).length ((done ++ [s.extract k (k + n)]).map Value.string) := by
            rw [List.length_append, List.map_append]; exact hown'
          have HO2 := Lib.hid hown2
          have HB2 := Lib.hid ((HB.out.alloc hbs (.cells #[.string (s.extract k (k + n))] 9)).grown hgrow3 (by simp; omega) (fun j hj => (HO.out.lt j hj).1))
          clear hown' hgrow3 hnil3 hown2
          go_wp2
          go_roundw
          case rel => exact ⟨k + n, done ++ [s.extract k (k + n)], by omega, by go_num, HO2.out, HB2.out, by simp; omega, HN.out, Hall.out⟩
          case measure => simp [Go.RowKit.intOf]; omega
    · have hz : ¬ (k : Int) < s.size := by omega
      have hd : rnL (s.data.toList.drop k) = [] := by rw [drop_end s k (by omega)]; rfl
      have HF : Hid (done.map (·.data.toList) = rnL s.data.toList) := Lib.hid (by rw [← HE.out, hd, List.append_nil])
      clear hd
      obtain ⟨ao, c, hv0, hv1, hv2, hv3, hv4⟩ := row_view HO.out
      subst hv0
      have HV := Lib.hid hv4
      have HV2 := Lib.hid hv2
      clear hv4 hv2
      go_wp2_with fail
      go_ret
      exact ⟨ao, c, done, rfl, hv1, HV2.out, hv3, HF.out, HS.out, HV.out, HB.out⟩
end RG
end Go.Proofs.YtechekdiadpmoaaDoor
namespace Go.Proofs.YtechekdiadpmoaaDoor
open Go.RowKit Go.Lib
namespace RG
open GP LitN RN
theorem encode_tail (r : Int) : ∀ b ∈ (Lib.encodeRune r).tail, conB b = true := by
  intro b hb
  unfold Lib.encodeRune Lib.encodeRuneZ at hb
  unfold conB
  split at hb
  · simp at hb
  · split at hb
    · simp at hb
      subst hb
      simp
      omega
    · split at hb
      · simp at hb
        rcases hb with rfl | rfl <;> (simp; omega)
      · split at hb
        · simp at hb
          rcases hb with rfl | rfl | rfl <;> (simp; omega)
        · simp at hb
          rcases hb with rfl | rfl <;> decide
theorem con_bad {y : UInt8} (t : List UInt8) (h : conB y = true) : badB (y :: t) = true := by
  unfold conB at h
  simp only [Bool.and_eq_true, decide_eq_true_eq] at h
  unfold badB
  rw [Lib.decodeL_N]
  have e0 : ((y :: t).getD 0 0).toNat = y.toNat := rfl
  rw [e0]
  unfold Lib.decodeN
  rw [if_neg (by omega), if_neg (by omega), if_neg (by omega), if_neg (by omega)]
  decide
theorem rn_valid : ∀ (n : Nat) (l : List UInt8), l.length ≤ n → Lib.validD l = true → rnL l = (runes l).map fun r => Lib.encodeRune ((r : Nat) : Int)
  | 0, l, h, _ => by
    have : l = [] := List.eq_nil_of_length_eq_zero (by omega)
    subst this
    rfl
  | n + 1, l, h, hv => by
    by_cases hne : l = []
    · subst hne; rfl
    · obtain ⟨hv2, hed, _, _⟩ := lit_rune l hne hv
      have hw := Lib.decodeL_width l
      have hl : 0 < l.length := List.length_pos_iff.2 hne
      have ih := rn_valid n _ (by rw [List.length_drop]; omega) hv2
      rw [runes_step hne, List.map_cons, hed]
      obtain ⟨x, r, rfl⟩ := List.exists_cons_of_ne_nil hne
      obtain ⟨c, hc, hcl, _⟩ := dec_cut x r
      obtain ⟨j, hj⟩ : ∃ j, (Lib.decodeL (x :: r)).2 = j + 1 := ⟨(Lib.decodeL (x :: r)).2 - 1, by omega⟩
      rw [hj] at hed hc hcl ih hv2 ⊢
      rw [List.drop_succ_cons] at hc ih hv2 ⊢
      rw [List.take_succ_cons] at hed ⊢
      have hct : r.take j = c := (congrArg (List.take j) hc).trans (List.take_left' (by omega))
      have hcc : ∀ b ∈ c, conB b = true := fun b hb => encode_tail _ b (by rw [hed, hct]; exact hb)
      have hhd : (r.drop j).takeWhile conB = [] ∧ (r.drop j).dropWhile conB = r.drop j := by
        cases hd : r.drop j with
        | nil => exact ⟨rfl, rfl⟩
        | cons y t =>
          rw [hd] at hv2
          have hy : conB y = false := by
            cases h2 : conB y
            · rfl
            · have h3 := (valid_good (by simp) hv2).1
              rw [con_bad t h2] at h3
              cases h3
          rw [List.takeWhile_cons, List.dropWhile_cons, hy]
          exact ⟨rfl, rfl⟩
      rw [rnL_cons]
      have hr : r = c ++ r.drop j := hc
      have ht : r.takeWhile conB = c := by
        rw [hr, List.takeWhile_append_of_pos hcc, hhd.1, List.append_nil]
      have hdw : r.dropWhile conB = r.drop j := by
        have h1 : (c ++ r.drop j).dropWhile conB = (r.drop j).dropWhile conB := List.dropWhile_append_of_pos hcc
        rw [← hr, hhd.2] at h1
        exact h1
      rw [ht, hdw, ih, hct]
end RG
end Go.Proofs.YtechekdiadpmoaaDoor
end
section
/- The runes between brackets, as the document holds them against one, are the spans that the code reads there. -/
namespace Go.Proofs.YtechekdiadpmoaaDoor
open Go.RowKit Go.Lib
namespace RO
open GP LitN

/-- Runes between brackets, each with whether it is a '-' of its own. -/
def hlN : List Nat → List (Nat × Bool)
  | [] => []
  | [x] => if x = 92 then [] else [(x, decide (x = 45))]
  | x :: y :: r => if x = 92 then (y, false) :: hlN r else (x, decide (x = 45)) :: hlN (y :: r)
def okN : List Nat → Bool
  | [] => true
  | [x] => decide (x ≠ 92)
  | x :: y :: r => if x = 92 then okN r else okN (y :: r)
def hdN : List (Nat × Bool) → Nat → Bool
  | [], _ => false
  | [a], r => decide (a.1 = r)
  | [a, b], r => decide (a.1 = r) || decide (b.1 = r)
  | a :: b :: c :: l, r => if b.2 = true then (decide (a.1 ≤ r) && decide (r ≤ c.1)) || hdN l r else decide (a.1 = r) || hdN (b :: c :: l) r
def inSp (r : Nat) (s : Sp) : Bool := decide (s.1 ≤ r) && decide (r ≤ s.2)
theorem in_one (r x : Nat) : inSp r (x, x) = decide (x = r) := by
  unfold inSp
  rw [← Bool.decide_and]
  congr 1
  apply propext
  constructor
  · intro h; omega
  · intro h; omega
theorem hl_plain {x : Nat} (h : x ≠ 92) (R : List Nat) : hlN (x :: R) = (x, decide (x = 45)) :: hlN R ∧ okN (x :: R) = okN R := by
  cases R with
  | nil => simp [hlN, okN, h]
  | cons y r => simp [hlN, okN, h]
theorem hl_esc (x : Nat) (R : List Nat) : hlN (92 :: x :: R) = (x, false) :: hlN R ∧ okN (92 :: x :: R) = okN R := by simp [hlN, okN]
theorem hd_one {a : Nat × Bool} {L : List (Nat × Bool)} (h : L.length < 2 ∨ ∀ b, L.head? = some b → b.2 = false) (r : Nat) : hdN (a :: L) r = (decide (a.1 = r) || hdN L r) := by
  match L, h with
  | [], _ => simp [hdN]
  | [b], _ => simp [hdN]
  | b :: c :: l, h =>
    rcases h with h | h
    · simp at h
      omega
    · have := h b rfl
      rw [hdN, if_neg (by rw [this]; simp)]
theorem hd_span (a b : Nat × Bool) (c : Nat × Bool) (L : List (Nat × Bool)) (hb : b.2 = true) (r : Nat) : hdN (a :: b :: c :: L) r = (inSp r (a.1, c.1) || hdN L r) := by
  rw [hdN, if_pos hb]
  rfl
abbrev enc (x : Nat) : List UInt8 := Lib.encodeRune (x : Int)
theorem enc_head (x : Nat) : (enc x).head? = some (if x < 128 then UInt8.ofNat x else (enc x).headD 0) ∧ (128 ≤ x → 128 ≤ ((enc x).headD 0).toNat) ∧ (x < 128 → enc x = [UInt8.ofNat x]) := by
  by_cases h : x < 128
  · have e : enc x = [UInt8.ofNat x] := by
      unfold enc Lib.encodeRune
      rw [Lib.encodeRuneZ_one (by omega) (by omega)]
      simp
    rw [e]
    exact ⟨by simp [h], by omega, fun _ => rfl⟩
  · have hh := encode_high (x : Int) (by omega)
    have hne : enc x ≠ [] := by
      intro e
      unfold enc Lib.encodeRune Lib.encodeRuneZ at e
      repeat' split at e
      all_goals simp at e
    obtain ⟨b, t, hb⟩ := List.exists_cons_of_ne_nil hne
    rw [if_neg h]
    refine ⟨by rw [hb]; rfl, fun _ => ?_, by omega⟩
    rw [hb]
    exact hh b (by rw [show Lib.encodeRune (x : Int) = enc x from rfl, hb]; simp)
theorem head_is {x b : Nat} (hb : b < 128) (t : List UInt8) : (enc x ++ t).head? = some (UInt8.ofNat b) ↔ x = b := by
  obtain ⟨h1, h2, h3⟩ := enc_head x
  have hne : enc x ≠ [] := by intro e; rw [e] at h1; simp at h1
  have ea : (enc x ++ t).head? = (enc x).head? := by
    obtain ⟨y, r, hy⟩ := List.exists_cons_of_ne_nil hne
    rw [hy]
    rfl
  rw [ea, h1]
  by_cases hx : x < 128
  · rw [if_pos hx]
    simp only [Option.some.injEq]
    constructor
    · intro e
      have := congrArg UInt8.toNat e
      simp [UInt8.toNat_ofNat'] at this
      omega
    · rintro rfl; rfl
  · rw [if_neg hx]
    simp only [Option.some.injEq]
    constructor
    · intro e
      have h4 := h2 (by omega)
      rw [e] at h4
      simp [UInt8.toNat_ofNat'] at h4
      omega
    · intro e; omega
/-- A valid text's first rune. -/
theorem first_rune {l : List UInt8} (hne : l ≠ []) (hv : Lib.validD l = true) :
    ∃ x t, l = enc x ++ t ∧ Lib.decodeL l = (x, (enc x).length) ∧ Lib.validD t = true ∧ enc x ≠ [] ∧
      ∀ t', Lib.validD t' = true → Lib.validD (enc x ++ t') = true ∧ runes (enc x ++ t') = x :: runes t' ∧ Lib.decodeL (enc x ++ t') = (x, (enc x).length) := by
  have hnb : ¬ ((Lib.decodeL l).1 = 65533 ∧ (Lib.decodeL l).2 = 1) := by
    rw [Lib.validD_step l hne] at hv
    split at hv
    · cases hv
    · assumption
  obtain ⟨hv2, hed, hvr, _⟩ := lit_rune l hne hv
  have hw := Lib.decodeL_width l
  have hle := Lib.decodeL_le l hne
  have hlen : (enc (Lib.decodeL l).1).length = (Lib.decodeL l).2 := by
    rw [show enc (Lib.decodeL l).1 = l.take (Lib.decodeL l).2 from hed, List.length_take]
    omega
  have hne2 : enc (Lib.decodeL l).1 ≠ [] := by
    intro e
    rw [e] at hlen
    simp at hlen
    omega
  have key : ∀ t', Lib.decodeL (enc (Lib.decodeL l).1 ++ t') = Lib.decodeL l := fun t' => by
    rw [show enc (Lib.decodeL l).1 = l.take (Lib.decodeL l).2 from hed]
    exact decode_pre l t' hne hnb
  refine ⟨(Lib.decodeL l).1, l.drop (Lib.decodeL l).2, ?_, by rw [hlen], hv2, hne2, fun t' ht' => ?_⟩
  · rw [show enc (Lib.decodeL l).1 = l.take (Lib.decodeL l).2 from hed, List.take_append_drop]
  · have hne3 : enc (Lib.decodeL l).1 ++ t' ≠ [] := by simp [hne2]
    have hd : (enc (Lib.decodeL l).1 ++ t').drop (Lib.decodeL l).2 = t' := by rw [← hlen, List.drop_left]
    refine ⟨?_, ?_, by rw [key, hlen]⟩
    · rw [Lib.validD_step _ hne3, key, if_neg hnb, hd]
      exact ht'
    · rw [runes_step hne3, key, hd]
/-- What is read as one rune (perhaps behind a backslash), of a valid text. -/
theorem read_rune {v : List UInt8} (hne : v ≠ []) (hv : Lib.validD v = true) (h0 : (runeL v).2 ≠ 0) :
    ∃ (c : List UInt8) (x : Nat) (v1 : List UInt8), v = c ++ v1 ∧ runeL v = (x, c.length) ∧ Lib.validD v1 = true ∧ c ≠ [] ∧
      ∀ t', Lib.validD t' = true → Lib.validD (c ++ t') = true ∧ hlN (runes (c ++ t')) = (x, decide (v.head? = some 45)) :: hlN (runes t') ∧ okN (runes (c ++ t')) = okN (runes t') := by
  obtain ⟨x, t, rfl, hd, hvt, hne2, key⟩ := first_rune hne hv
  by_cases h92 : (enc x ++ t).head? = some 92
  · have hx : x = 92 := (head_is (b := 92) (by decide) t).1 h92
    subst hx
    have e92 : enc 92 = [92] := (enc_head 92).2.2 (by decide)
    rw [e92, List.singleton_append] at h0 hv ⊢
    have ht : t ≠ [] := by
      rintro rfl
      apply h0
      rfl
    obtain ⟨y, s, rfl, hd2, hvs, hne3, key2⟩ := first_rune ht hvt
    have hr : runeL (92 :: (enc y ++ s)) = (y, (92 :: enc y).length) := by
      unfold runeL
      rw [if_pos (show (92 :: (enc y ++ s)).head? = some 92 from rfl), List.tail_cons]
      have e : decL (enc y ++ s) = (y, (enc y).length) := by
        unfold decL
        rw [if_neg ht, hd2]
      rw [e]
      have hl : 0 < (enc y).length := List.length_pos_iff.2 hne3
      simp only [if_pos hl, List.length_cons]
    refine ⟨92 :: enc y, y, s, rfl, hr, hvs, by simp, fun t' ht' => ?_⟩
    obtain ⟨k1, k2, _⟩ := key2 t' ht'
    obtain ⟨m1, m2, _⟩ := key (enc y ++ t') k1
    rw [e92, List.singleton_append] at m1 m2
    rw [List.cons_append, m2, k2]
    refine ⟨m1, ?_, (hl_esc y _).2⟩
    rw [(hl_esc y _).1]
    simp
  · have hx : x ≠ 92 := fun e => h92 ((head_is (b := 92) (by decide) t).2 e)
    have hr : runeL (enc x ++ t) = (x, (enc x).length) := by
      unfold runeL
      rw [if_neg h92]
      unfold decL
      rw [if_neg hne, hd]
    refine ⟨enc x, x, t, rfl, hr, hvt, hne2, fun t' ht' => ?_⟩
    obtain ⟨k1, k2, _⟩ := key t' ht'
    rw [k2]
    refine ⟨k1, ?_, (hl_plain hx _).2⟩
    rw [(hl_plain hx _).1]
    have e45 : decide ((enc x ++ t).head? = some 45) = decide (x = 45) := by
      congr 1
      exact propext (head_is (b := 45) (by decide) t)
    rw [e45]
theorem hl_head {l : List UInt8} (hv : Lib.validD l = true) {b : Nat × Bool} (h : (hlN (runes l)).head? = some b) (hb : b.2 = true) : l.head? = some 45 := by
  by_cases hne : l = []
  · subst hne
    rw [runes_nil] at h
    simp [hlN] at h
  · obtain ⟨y, t, rfl, _, hvt, _, key⟩ := first_rune hne hv
    rw [(key t hvt).2.1] at h
    by_cases h92 : y = 92
    · subst h92
      cases hr : runes t with
      | nil =>
        rw [hr] at h
        simp [hlN] at h
      | cons z R =>
        rw [hr, (hl_esc z R).1] at h
        simp only [List.head?_cons, Option.some.injEq] at h
        rw [← h] at hb
        cases hb
    · rw [(hl_plain h92 _).1] at h
      simp only [List.head?_cons, Option.some.injEq] at h
      rw [← h] at hb
      exact (head_is (b := 45) (by decide) t).2 (by simpa using hb)
theorem enc_low {b : Nat} (h : b < 128) : enc b = [UInt8.ofNat b] := (enc_head b).2.2 h
theorem dash_cut {v : List UInt8} (hv : Lib.validD v = true) (h : v.head? = some 45) : ∃ u, v = 45 :: u ∧ Lib.validD u = true ∧ ∀ t', Lib.validD t' = true → Lib.validD (45 :: t') = true ∧ runes (45 :: t') = 45 :: runes t' ∧ Lib.decodeL (45 :: t') = (45, 1) := by
  have hne : v ≠ [] := by rintro rfl; simp at h
  obtain ⟨x, t, rfl, _, hvt, _, key⟩ := first_rune hne hv
  have hx : x = 45 := (head_is (b := 45) (by decide) t).1 h
  subst hx
  have e : enc 45 = [45] := enc_low (by decide)
  rw [e] at key ⊢
  exact ⟨t, rfl, hvt, fun t' ht' => key t' ht'⟩
theorem span_zero {v : List UInt8} (hne : v ≠ []) (h : (runeL v).2 = 0) : (spanL v).2 = 0 := by
  have h92 : v.head? = some 92 := by
    by_cases h92 : v.head? = some 92
    · exact h92
    · unfold runeL at h
      rw [if_neg h92] at h
      have := decL_pos hne
      omega
  unfold spanL
  rw [if_neg (by rw [h, List.drop_zero, h92]; decide)]
  exact h
/-- The spans that are read up to a ']' hold just what the document's runes there hold. -/
theorem br_holds : ∀ (n : Nat) (v : List UInt8) (acc sps : List Sp) (rest : List UInt8), v.length ≤ n → Lib.validD v = true → brR v acc = some (sps, rest) →
    ∃ inner tl, v = inner ++ rest ∧ rest.head? = some 93 ∧ Lib.validD inner = true ∧ sps = acc ++ tl ∧ okN (runes inner) = true ∧ ∀ r, hdN (hlN (runes inner)) r = tl.any (inSp r)
  | 0, v, acc, sps, rest, hn, hv, h => by
    have : v = [] := List.eq_nil_of_length_eq_zero (by omega)
    subst this
    rw [brR_nil] at h
    cases h
  | n + 1, v, acc, sps, rest, hn, hv, h => by
    by_cases hne : v = []
    · subst hne
      rw [brR_nil] at h
      cases h
    by_cases h93 : v.head? = some 93
    · rw [brR_end h93] at h
      split at h
      · cases h
      · simp only [Option.some.injEq, Prod.mk.injEq] at h
        obtain ⟨rfl, rfl⟩ := h
        exact ⟨[], [], rfl, h93, rfl, by simp, rfl, fun r => rfl⟩
    rw [brR_step hne h93] at h
    by_cases hs0 : (spanL v).2 = 0
    · rw [if_pos hs0] at h
      cases h
    rw [if_neg hs0] at h
    have hr0 : (runeL v).2 ≠ 0 := fun e => hs0 (span_zero hne e)
    obtain ⟨c, x, v1, rfl, hr, hvv, hc, key⟩ := read_rune hne hv hr0
    have hcl : 0 < c.length := List.length_pos_iff.2 hc
    have hdr : (c ++ v1).drop (runeL (c ++ v1)).2 = v1 := by rw [hr, List.drop_left]
    have hn1 : v1.length ≤ n := by rw [List.length_append] at hn; omega
    have one (hlt : ∀ inner1, v1 = inner1 ++ rest → (hlN (runes inner1)).length < 2 ∨ ∀ b, (hlN (runes inner1)).head? = some b → Lib.validD inner1 = true → b.2 = false) (hsp : spanL (c ++ v1) = ((x, x), c.length)) :
        ∃ inner tl, c ++ v1 = inner ++ rest ∧ rest.head? = some 93 ∧ Lib.validD inner = true ∧ sps = acc ++ tl ∧ okN (runes inner) = true ∧ ∀ r, hdN (hlN (runes inner)) r = tl.any (inSp r) := by
      rw [hsp, List.drop_left] at h
      obtain ⟨inner1, tl, e1, e2, e3, e4, e5, e6⟩ := br_holds n v1 _ sps rest hn1 hvv h
      obtain ⟨k1, k2, k3⟩ := key inner1 e3
      refine ⟨c ++ inner1, (x, x) :: tl, by rw [e1, List.append_assoc], e2, k1, by rw [e4]; simp, by rw [k3]; exact e5, fun r => ?_⟩
      rw [k2, hd_one ((hlt inner1 e1).imp id fun hh b hb => hh b hb e3), e6, List.any_cons, in_one]
    by_cases h45 : v1.head? = some 45
    · obtain ⟨v2, rfl, hv2, key2⟩ := dash_cut hvv h45
      by_cases hend : v2 = [] ∨ v2.head? = some 93
      · refine one (fun inner1 e1 => .inl ?_) ?_
        · have hsp2 : spanL (45 :: v2) = ((45, 45), 1) := by
            have hr2 : runeL (45 :: v2) = (45, 1) := by
              unfold runeL
              rw [if_neg (by simp)]
              unfold decL
              rw [if_neg (by simp)]
              exact (key2 v2 hv2).2.2
            unfold spanL
            rw [hr2]
            simp only [List.drop_succ_cons, List.drop_zero]
            rw [if_neg]
            rcases hend with h0 | h0
            · rw [h0]; simp
            · rw [h0]; decide
          have hsp1 : spanL (c ++ 45 :: v2) = ((x, x), c.length) := by
            unfold spanL
            rw [hdr, hr, if_pos (show (45 :: v2).head? = some 45 from rfl), List.tail_cons, if_pos hend]
          rw [hsp1, List.drop_left, brR_step (by simp) (by simp), hsp2, if_neg (by simp)] at h
          simp only [List.drop_succ_cons, List.drop_zero] at h
          have hrest : rest = v2 := by
            rcases hend with h0 | h0
            · rw [h0, brR_nil] at h
              cases h
            · rw [brR_end h0] at h
              split at h
              · cases h
              · simp only [Option.some.injEq, Prod.mk.injEq] at h
                exact h.2.symm
          rw [hrest] at e1
          have e : inner1 = [45] := by
            have h5 : [45] ++ v2 = inner1 ++ v2 := e1
            exact (List.append_cancel_right h5).symm
          rw [e, (key2 [] rfl).2.1, runes_nil]
          simp [hlN]
        · unfold spanL
          rw [hdr, hr, if_pos (show (45 :: v2).head? = some 45 from rfl), List.tail_cons, if_pos hend]
      · have hr2 : (runeL v2).2 ≠ 0 := by
          intro e
          apply hs0
          unfold spanL
          rw [hdr, if_pos (show (45 :: v2).head? = some 45 from rfl), List.tail_cons, if_neg hend, if_pos e]
        have hne2 : v2 ≠ [] := fun e => hend (.inl e)
        obtain ⟨c2, y, v3, rfl, hry, hv3, hc2, key3⟩ := read_rune hne2 hv2 hr2
        have hsp : spanL (c ++ 45 :: (c2 ++ v3)) = ((x, y), c.length + 1 + c2.length) := by
          unfold spanL
          rw [hdr, hr, if_pos (show (45 :: (c2 ++ v3)).head? = some 45 from rfl), List.tail_cons, if_neg hend, if_neg hr2, hry]
        have hdrop : (c ++ 45 :: (c2 ++ v3)).drop (c.length + 1 + c2.length) = v3 := by
          have e : c ++ 45 :: (c2 ++ v3) = (c ++ 45 :: c2) ++ v3 := by simp
          have el : (c ++ 45 :: c2).length = c.length + 1 + c2.length := by simp; omega
          rw [e, ← el, List.drop_left]
        rw [hsp, hdrop] at h
        obtain ⟨inner3, tl, e1, e2, e3, e4, e5, e6⟩ := br_holds n v3 _ sps rest (by simp only [List.length_append, List.length_cons] at hn; omega) hv3 h
        obtain ⟨m1, m2, m3⟩ := key3 inner3 e3
        obtain ⟨d1, d2, _⟩ := key2 (c2 ++ inner3) m1
        obtain ⟨k1, k2, k3⟩ := key (45 :: (c2 ++ inner3)) d1
        refine ⟨c ++ 45 :: (c2 ++ inner3), (x, y) :: tl, by rw [e1]; simp, e2, k1, by rw [e4]; simp, ?_, fun r => ?_⟩
        · rw [k3, d2, (hl_plain (by decide) _).2, m3]
          exact e5
        · rw [k2, d2, (hl_plain (by decide) _).1, m2, hd_span _ _ _ _ (by decide), e6, List.any_cons]
    · refine one (fun inner1 e1 => .inr fun b hb hv1 => ?_) ?_
      · cases hb2 : b.2
        · rfl
        · exfalso
          apply h45
          have h1 := hl_head hv1 hb hb2
          rw [e1]
          cases inner1 with
          | nil => simp at h1
          | cons z r => simpa using h1
      · unfold spanL
        rw [hdr, hr, if_neg h45]
end RO
end Go.Proofs.YtechekdiadpmoaaDoor
namespace Go.Proofs.YtechekdiadpmoaaDoor
open Go.RowKit Go.Lib
namespace RO
open GP LitN

def VR (x : Nat) : Prop := x < 55296 ∨ (57343 < x ∧ x ≤ 1114111)
theorem vr_of {x : Nat} (h : Lib.validRune (x : Int) = true) : VR x := by
  unfold Lib.validRune at h
  simp only [decide_eq_true_eq] at h
  unfold VR
  omega
def encN (x : Nat) : List Nat := if x < 128 then [x] else if x < 2048 then [192 + x / 64, 128 + x % 64] else if x < 65536 then [224 + x / 4096, 128 + x / 64 % 64, 128 + x % 64] else [240 + x / 262144, 128 + x / 4096 % 64, 128 + x / 64 % 64, 128 + x % 64]
theorem t8 {z : Int} {k : Nat} (h : z.toNat = k) : z.toNat.toUInt8 = UInt8.ofNat k := by rw [h]
theorem enc_N {x : Nat} (h : VR x) : enc x = (encN x).map UInt8.ofNat ∧ ∀ k ∈ encN x, k < 256 := by
  unfold VR at h
  unfold encN
  by_cases h1 : x < 128
  · rw [if_pos h1]
    exact ⟨enc_low h1, fun k hk => by simp at hk; omega⟩
  · rw [if_neg h1]
    by_cases h2 : x < 2048
    · rw [if_pos h2]
      refine ⟨?_, fun k hk => by simp at hk; omega⟩
      unfold enc Lib.encodeRune
      rw [Lib.encodeRuneZ_two (by omega) (by omega)]
      simp only [List.map_cons, List.map_nil]
      rw [t8 (k := 192 + x / 64) (by omega), t8 (k := 128 + x % 64) (by omega)]
    · rw [if_neg h2]
      by_cases h3 : x < 65536
      · rw [if_pos h3]
        refine ⟨?_, fun k hk => by simp at hk; omega⟩
        unfold enc Lib.encodeRune
        rw [Lib.encodeRuneZ_three (by omega)]
        simp only [List.map_cons, List.map_nil]
        rw [t8 (k := 224 + x / 4096) (by omega), t8 (k := 128 + x / 64 % 64) (by omega), t8 (k := 128 + x % 64) (by omega)]
      · rw [if_neg h3]
        refine ⟨?_, fun k hk => by simp at hk; omega⟩
        unfold enc Lib.encodeRune
        rw [Lib.encodeRuneZ_four (by omega) (by omega)]
        simp only [List.map_cons, List.map_nil]
        rw [t8 (k := 240 + x / 262144) (by omega), t8 (k := 128 + x / 4096 % 64) (by omega), t8 (k := 128 + x / 64 % 64) (by omega), t8 (k := 128 + x % 64) (by omega)]
def lexN : List Nat → List Nat → Bool
  | _, [] => false
  | [], _ :: _ => true
  | a :: x, b :: y => decide (a < b) || (decide (a = b) && lexN x y)
theorem ofNat_lt {a b : Nat} (ha : a < 256) (hb : b < 256) : decide (UInt8.ofNat a < UInt8.ofNat b) = decide (a < b) := by
  congr 1
  rw [UInt8.lt_iff_toNat_lt]
  simp [UInt8.toNat_ofNat']
  rw [Nat.mod_eq_of_lt ha, Nat.mod_eq_of_lt hb]
theorem ofNat_beq {a b : Nat} (ha : a < 256) (hb : b < 256) : (UInt8.ofNat a == UInt8.ofNat b) = decide (a = b) := by
  rw [Bool.eq_iff_iff]
  simp only [beq_iff_eq, decide_eq_true_eq]
  constructor
  · intro h
    have := congrArg UInt8.toNat h
    simp [UInt8.toNat_ofNat'] at this
    omega
  · rintro rfl; rfl
theorem lex_bytes : ∀ (l m : List Nat), (∀ k ∈ l, k < 256) → (∀ k ∈ m, k < 256) → Op.bytesLess (l.map UInt8.ofNat) (m.map UInt8.ofNat) = lexN l m
  | _, [], _, _ => by
    rw [List.map_nil, Op.bytesLess, lexN]
  | [], b :: y, _, _ => by
    rw [List.map_nil, List.map_cons, Op.bytesLess, lexN]
  | a :: x, b :: y, h1, h2 => by
    rw [List.map_cons, List.map_cons, Op.bytesLess, lexN, lex_bytes x y (fun k hk => h1 k (by simp [hk])) (fun k hk => h2 k (by simp [hk])), ofNat_lt (h1 a (by simp)) (h2 b (by simp)), ofNat_beq (h1 a (by simp)) (h2 b (by simp))]
set_option maxHeartbeats 1600000 in
theorem lex_enc {a b : Nat} (ha : VR a) (hb : VR b) : lexN (encN a) (encN b) = decide (a < b) := by
  unfold VR at ha hb
  rw [Bool.eq_iff_iff, decide_eq_true_eq]
  unfold encN
  by_cases a1 : a < 128
  · rw [if_pos a1]
    by_cases b1 : b < 128
    · rw [if_pos b1]; simp [lexN]
    · rw [if_neg b1]
      by_cases b2 : b < 2048
      · rw [if_pos b2]; simp [lexN]; omega
      · rw [if_neg b2]
        by_cases b3 : b < 65536
        · rw [if_pos b3]; simp [lexN]; omega
        · rw [if_neg b3]; simp [lexN]; omega
  · rw [if_neg a1]
    by_cases a2 : a < 2048
    · rw [if_pos a2]
      by_cases b1 : b < 128
      · rw [if_pos b1]; simp [lexN]; omega
      · rw [if_neg b1]
        by_cases b2 : b < 2048
        · rw [if_pos b2]; simp [lexN]; omega
        · rw [if_neg b2]
          by_cases b3 : b < 65536
          · rw [if_pos b3]; simp [lexN]; omega
          · rw [if_neg b3]; simp [lexN]; omega
    · rw [if_neg a2]
      by_cases a3 : a < 65536
      · rw [if_pos a3]
        by_cases b1 : b < 128
        · rw [if_pos b1]; simp [lexN]; omega
        · rw [if_neg b1]
          by_cases b2 : b < 2048
          · rw [if_pos b2]; simp [lexN]; omega
          · rw [if_neg b2]
            by_cases b3 : b < 65536
            · rw [if_pos b3]; simp [lexN]; omega
            · rw [if_neg b3]; simp [lexN]; omega
      · rw [if_neg a3]
        by_cases b1 : b < 128
        · rw [if_pos b1]; simp [lexN]; omega
        · rw [if_neg b1]
          by_cases b2 : b < 2048
          · rw [if_pos b2]; simp [lexN]; omega
          · rw [if_neg b2]
            by_cases b3 : b < 65536
            · rw [if_pos b3]; simp [lexN]; omega
            · rw [if_neg b3]; simp [lexN]; omega
theorem enc_less {a b : Nat} (ha : VR a) (hb : VR b) : Op.bytesLess (enc a) (enc b) = decide (a < b) := by
  rw [(enc_N ha).1, (enc_N hb).1, lex_bytes _ _ (enc_N ha).2 (enc_N hb).2, lex_enc ha hb]
theorem enc_inj {a b : Nat} (ha : VR a) (hb : VR b) (h : enc a = enc b) : a = b := by
  have h1 := enc_less ha hb
  have h2 := enc_less hb ha
  have h3 := enc_less ha ha
  rw [h] at h1 h2 h3
  rw [h1] at h2
  simp only [decide_eq_decide] at h2
  omega
theorem enc_beq {a b : Nat} (ha : VR a) (hb : VR b) : (enc a == enc b) = decide (a = b) := by
  rw [Bool.eq_iff_iff]
  simp only [beq_iff_eq, decide_eq_true_eq]
  exact ⟨enc_inj ha hb, fun h => by rw [h]⟩
theorem enc_le {a b : Nat} (ha : VR a) (hb : VR b) : (Op.bytesLess (enc a) (enc b) || enc a == enc b) = decide (a ≤ b) := by
  rw [enc_less ha hb, enc_beq ha hb, ← Bool.decide_or]
  congr 1
  apply propext
  omega
theorem runes_vr : ∀ (n : Nat) (l : List UInt8), l.length ≤ n → Lib.validD l = true → ∀ x ∈ runes l, VR x
  | 0, l, h, _, x, hx => by
    have : l = [] := List.eq_nil_of_length_eq_zero (by omega)
    subst this
    rw [runes_nil] at hx
    cases hx
  | n + 1, l, h, hv, x, hx => by
    by_cases hne : l = []
    · subst hne
      rw [runes_nil] at hx
      cases hx
    · obtain ⟨hv2, _, hvr, _⟩ := lit_rune l hne hv
      have hw := Lib.decodeL_width l
      have hl : 0 < l.length := List.length_pos_iff.2 hne
      rw [runes_step hne] at hx
      rcases List.mem_cons.1 hx with rfl | hx
      · exact vr_of hvr
      · exact runes_vr n _ (by rw [List.length_drop]; omega) hv2 x hx
end RO
end Go.Proofs.YtechekdiadpmoaaDoor
end
section
/- The document's answer: holds. -/
namespace Go.Proofs.YtechekdiadpmoaaDoor
open Go.RowKit Go.Lib
namespace RO
open GP LitN RG

abbrev Dn := ByteArray × Bool
def TwoRows (B : Nat) (wr : World) (v1 v2 : Value) (done : List Dn) : Prop :=
  wr.ownsRow B 9 1 v1 done.length (done.map fun d => Value.string d.1) ∧ wr.ownsRow B 4 1 v2 done.length (done.map fun d => Value.bool d.2)
/-- What has been laid down is what the runes so far say. -/
def Same (done : List Dn) (D : List (Nat × Bool)) : Prop := done.map (fun d => (d.1.data.toList, d.2)) = D.map fun d => (enc d.1, d.2)
theorem Same.len {done : List Dn} {D : List (Nat × Bool)} (h : Same done D) : done.length = D.length := by
  have := congrArg List.length h
  simpa using this
theorem Same.snoc {done : List Dn} {D : List (Nat × Bool)} (h : Same done D) {x : ByteArray} {y : Nat} {b : Bool} (hx : x.data.toList = enc y) : Same (done ++ [(x, b)]) (D ++ [(y, b)]) := by
  unfold Same at h ⊢
  rw [List.map_append, List.map_append, h, List.map_singleton, List.map_singleton, hx]
theorem Same.at {done : List Dn} {D : List (Nat × Bool)} (h : Same done D) {k : Nat} {d : Nat × Bool} (hd : D[k]? = some d) : ∃ x, done[k]? = some (x, d.2) ∧ x.data.toList = enc d.1 := by
  have h1 : (done.map (fun d => (d.1.data.toList, d.2)))[k]? = (D.map fun d => (enc d.1, d.2))[k]? := by rw [h]
  rw [List.getElem?_map, List.getElem?_map, hd] at h1
  obtain ⟨⟨x, b⟩, hx, e⟩ := Option.map_eq_some_iff.1 h1
  simp only [Prod.mk.injEq] at e
  obtain ⟨e1, e2⟩ := e
  subst e2
  exact ⟨x, hx, e1⟩
theorem other_row {w : World} {B1 B2 t1 t2 n1 n2 : Nat} {v1 v2 : Value} {x1 x2 : List Value} (h1 : w.ownsRow B1 t1 1 v1 n1 x1) (h2 : w.ownsRow B2 t2 1 v2 n2 x2) (ht : t1 ≠ t2) : v2.ownBlock = none ∨ v2.ownBlock ≠ v1.ownBlock := by
  rcases h2.2 with ⟨e, _⟩ | ⟨g2, c2, cur2, e2, _, hg2, _⟩
  · rw [e]; exact .inl rfl
  · right
    intro e
    rw [e2] at e
    rcases h1.2 with ⟨e1, _⟩ | ⟨g1, c1, cur1, e1, _, hg1, _⟩
    · rw [e1] at e
      simp [Value.ownBlock] at e
    · rw [e1] at e
      simp only [Value.ownBlock, Option.some.injEq] at e
      rw [e] at hg2
      rw [hg1] at hg2
      simp only [Option.some.injEq, Obj.cells.injEq] at hg2
      exact ht hg2.2.1
theorem infoB : (Tryd.prog.info? 4).map (fun i => (i.zero, i.size, i.bytes)) = some (some (.bool false), 1, 1) := by kernel_rfl
/-- A list of runes' texts. -/
def EncOf (xs : List ByteArray) (rs : List Nat) : Prop := xs.map (·.data.toList) = rs.map enc
theorem EncOf.at {xs : List ByteArray} {rs : List Nat} (h : EncOf xs rs) {k : Nat} {y : Nat} (hy : rs[k]? = some y) : ∃ x, xs[k]? = some x ∧ x.data.toList = enc y := by
  have h1 : (xs.map (·.data.toList))[k]? = (rs.map enc)[k]? := by rw [h]
  rw [List.getElem?_map, List.getElem?_map, hy] at h1
  obtain ⟨x, hx, e⟩ := Option.map_eq_some_iff.1 h1
  exact ⟨x, hx, e⟩
theorem EncOf.len {xs : List ByteArray} {rs : List Nat} (h : EncOf xs rs) : xs.length = rs.length := by
  have := congrArg List.length h
  simpa using this
theorem text_is {x : ByteArray} {y b : Nat} (hx : x.data.toList = enc y) (hy : VR y) (hb : b < 128) : (x.toList == (⟨#[UInt8.ofNat b]⟩ : ByteArray).toList) = decide (y = b) := by
  rw [Lib.toList_data, hx, Lib.toList_data, show (⟨#[UInt8.ofNat b]⟩ : ByteArray).data.toList = enc b from (enc_low hb).symm]
  exact enc_beq hy (by unfold VR; omega)
theorem text_le {x z : ByteArray} {a b : Nat} (hx : x.data.toList = enc a) (hz : z.data.toList = enc b) (ha : VR a) (hb : VR b) : (Op.bytesLess x.toList z.toList || x.toList == z.toList) = decide (a ≤ b) := by
  rw [Lib.toList_data, Lib.toList_data, hx, hz]
  exact enc_le ha hb
theorem text_eq {x z : ByteArray} {a b : Nat} (hx : x.data.toList = enc a) (hz : z.data.toList = enc b) (ha : VR a) (hb : VR b) : (x.toList == z.toList) = decide (a = b) := by
  rw [Lib.toList_data, Lib.toList_data, hx, hz]
  exact enc_beq ha hb
theorem drop_at2 {α : Type} {l : List α} {k : Nat} {x : α} (h : l[k]? = some x) : l.drop k = x :: l.drop (k + 1) := by
  obtain ⟨hlt, rfl⟩ := List.getElem?_eq_some_iff.1 h
  exact List.drop_eq_getElem_cons hlt
theorem hl_vr : ∀ (n : Nat) (rs : List Nat), rs.length ≤ n → (∀ y ∈ rs, VR y) → ∀ d ∈ hlN rs, VR d.1
  | 0, rs, h, _, d, hd => by
    have : rs = [] := List.eq_nil_of_length_eq_zero (by omega)
    subst this
    simp [hlN] at hd
  | n + 1, [], _, _, d, hd => by simp [hlN] at hd
  | n + 1, x :: R, h, hv, d, hd => by
    rw [List.length_cons] at h
    by_cases h92 : x = 92
    · subst h92
      cases R with
      | nil => simp [hlN] at hd
      | cons y r =>
        rw [(hl_esc y r).1] at hd
        rcases List.mem_cons.1 hd with rfl | hd
        · exact hv y (by simp)
        · exact hl_vr n r (by rw [List.length_cons] at h; omega) (fun z hz => hv z (by simp [hz])) d hd
    · rw [(hl_plain h92 R).1] at hd
      rcases List.mem_cons.1 hd with rfl | hd
      · exact hv x (by simp)
      · exact hl_vr n R (by omega) (fun z hz => hv z (by simp [hz])) d hd
theorem runes_len (l : List UInt8) : (runes l).length ≤ l.length := by
  have key : ∀ (n : Nat) (l : List UInt8), (ruGo n l).length ≤ n := by
    intro n
    induction n with
    | zero => intro l; simp [ruGo]
    | succ n ih =>
      intro l
      unfold ruGo
      split
      · simp
      · rw [List.length_cons]
        have := ih (l.drop (Lib.decodeL l).2)
        omega
  exact key _ _
theorem row_view2 {B : Nat} {wr : World} {v : Value} {done : List Dn} (ho : wr.ownsRow B 9 1 v done.length (done.map fun d => Value.string d.1)) :
    ∃ (ao : Option Addr) (c : Nat), v = .slice ao done.length c ∧ done.length ≤ c ∧ (ao = none → done = [] ∧ c = 0) ∧ c ≤ maxLen ∧ (0 < done.length → ∃ g o, ao = some ⟨g, o, none⟩ ∧ g < wr.heap.size ∧ ∀ (j : Nat) d, done[j]? = some d → wr.cell? ⟨g, o + j, none⟩ = some (.string d.1)) := by
  rcases ho.2 with ⟨hv, h0⟩ | ⟨g, cap, cur, hv, hb, hg, hle, hcap, _⟩
  · have : done = [] := List.eq_nil_of_length_eq_zero h0
    subst this
    exact ⟨none, 0, hv, Nat.le_refl _, fun _ => ⟨rfl, rfl⟩, Nat.zero_le _, fun h => by simp at h⟩
  · subst hv
    refine ⟨_, cap, rfl, hle, (fun h => by cases h), hcap, fun _ => ⟨g, 0, rfl, (Array.getElem?_eq_some_iff.1 hg).1, fun j x hx => ?_⟩⟩
    have hj : j < done.length := (List.getElem?_eq_some_iff.1 hx).1
    rw [Nat.zero_add, ho.cellAt j (by omega), List.getElem?_map, hx]
    rfl
theorem row_viewB {B : Nat} {wr : World} {v : Value} {done : List Dn} (ho : wr.ownsRow B 4 1 v done.length (done.map fun d => Value.bool d.2)) :
    ∃ (ao : Option Addr) (c : Nat), v = .slice ao done.length c ∧ (0 < done.length → ∃ g o, ao = some ⟨g, o, none⟩ ∧ g < wr.heap.size ∧ ∀ (j : Nat) d, done[j]? = some d → wr.cell? ⟨g, o + j, none⟩ = some (.bool d.2)) := by
  rcases ho.2 with ⟨hv, h0⟩ | ⟨g, cap, cur, hv, hb, hg, hle, hcap, _⟩
  · have : done = [] := List.eq_nil_of_length_eq_zero h0
    subst this
    exact ⟨none, 0, hv, fun h => by simp at h⟩
  · subst hv
    refine ⟨_, cap, rfl, fun _ => ⟨g, 0, rfl, (Array.getElem?_eq_some_iff.1 hg).1, fun j x hx => ?_⟩⟩
    have hj : j < done.length := (List.getElem?_eq_some_iff.1 hx).1
    rw [Nat.zero_add, ho.cellAt j (by omega), List.getElem?_map, hx]
    rfl
set_option maxRecDepth 100000 in
set_option maxHeartbeats 6400000 in
theorem holds_any (s r : ByteArray) (yr : Nat) (w : World) (hs : s.size ≤ 400) (hv : Lib.validD s.data.toList = true) (hok : okN (runes s.data.toList) = true) (hr : r.data.toList = enc yr) (hyv : VR yr) :
    Calls Tryd.prog 99 #[.string s, .string r] w fun e w' => e = .returned (.bool (hdN (hlN (runes s.data.toList)) yr)) ∧ Below w.heap.size w w' := by
  obtain ⟨iS, hiS, hzS0, hzS1, hzS2⟩ := info_parts RP.infoS
  obtain ⟨iB, hiB, hzB0, hzB1, hzB2⟩ := info_parts infoB
  have cR := runes_any s w (by omega)
  have hrn := rn_valid _ s.data.toList (Nat.le_refl _) hv
  have HV := Lib.hid (runes_vr _ s.data.toList (Nat.le_refl _) hv)
  have hrl := runes_len s.data.toList
  rw [← Lib.size_eq] at hrl
  have HYr := Lib.hid hr
  have HYv := Lib.hid hyv
  generalize runes s.data.toList = rs at hrn HV hok hrl ⊢
  obtain ⟨R, hRR⟩ : ∃ R, hdN (hlN rs) yr = R := ⟨_, rfl⟩
  rw [hRR]
  have HRR := Lib.hid hRR
  clear hRR
  go_enter Tryd.func99, Tryd.ntmps99
  go_wp2_with fail
  refine cR.mono ?_
  rintro e w1 ⟨ao, cx, xs, rfl, _, _, _, hxe, _, hX, hW⟩
  have HXE : Hid (EncOf xs rs) := Lib.hid (by unfold EncOf; rw [hxe, hrn])
  have hxl := HXE.out.len
  have HX := Lib.hid hX
  have HW := Lib.hid hW
  have HOK := Lib.hid hok
  have hx400 : xs.length ≤ 400 := by omega
  clear hxe hX hW hrn hv hr hyv hok cR
  go_wp2
  go_loopw [5, 6, 8] (fun s5 s6 s8 wr => ∃ (k : Nat) (done : List Dn) (D : List (Nat × Bool)), k ≤ xs.length ∧ s8 = .int .i64 k ∧ TwoRows w1.heap.size wr s5 s6 done ∧ Below w1.heap.size w1 wr ∧ Same done D ∧ D ++ hlN (rs.drop k) = hlN rs ∧ okN (rs.drop k) = true ∧ done.length ≤ k) (fun _ _ s8 _ => xs.length - (Go.RowKit.intOf s8).toNat)
  case atStart => exact ⟨0, [], [], Nat.zero_le _, rfl, ⟨World.ownsRow_nil _ _ _ _, World.ownsRow_nil _ _ _ _⟩, Below.refl _ _, rfl, rfl, HOK.out, Nat.le_refl _⟩
  case round =>
    obtain ⟨k, done, D, hk, rfl, hrows, hb, hsame, heq, hok, hdl⟩ := hrel
    have HO1 := Lib.hid hrows.1
    have HO2 := Lib.hid hrows.2
    have HB := Lib.hid hb
    have hbs : w1.heap.size ≤ wr.heap.size := hb.size
    have HSm := Lib.hid hsame
    have HE := Lib.hid heq
    have HOk := Lib.hid hok
    clear hrows hb hsame heq hok
    by_cases hlt : k < xs.length
    · have hkr : k < rs.length := by omega
      obtain ⟨y, hy⟩ : ∃ y, rs[k]? = some y := ⟨rs[k], List.getElem?_eq_getElem hkr⟩
      obtain ⟨u, hu, hud⟩ := HXE.out.at hy
      have hvy := HV.out y (List.mem_of_getElem? hy)
      have hz : (k : Int) < xs.length := by omega
      obtain ⟨gx, ox, rfl, hXN⟩ := HX.out (by omega)
      have hgx := hXN.1
      have HXC := Lib.hid hXN.2
      have hcu : wr.cell? ⟨gx, ox + k, none⟩ = some (.string u) := (HB.out.cell (p := ⟨gx, ox + k, none⟩) hgx).trans (HXC.out k u hu)
      have hdrop := drop_at2 hy
      clear hXN
      by_cases h92 : y = 92
      · subst h92
        have he92 : (u.toList == [92]) = true := by rw [Lib.toList_data, hud, enc_low (by decide)]; rfl
        have hlt2 : k + 1 < rs.length := by
          rcases Nat.lt_or_ge (k + 1) rs.length with h | h
          · exact h
          · exfalso
            have h1 := HOk.out
            rw [hdrop, List.drop_of_length_le (by omega)] at h1
            simp [okN] at h1
        obtain ⟨y2, hy2⟩ : ∃ y2, rs[k + 1]? = some y2 := ⟨rs[k + 1], List.getElem?_eq_getElem hlt2⟩
        obtain ⟨x, hx, hxd⟩ := HXE.out.at hy2
        have hz2 : (k : Int) + 1 < xs.length := by omega
        have hcx : wr.cell? ⟨gx, ox + (k + 1), none⟩ = some (.string x) := (HB.out.cell (p := ⟨gx, ox + (k + 1), none⟩) hgx).trans (HXC.out (k + 1) x hx)
        rw [drop_at2 hy2] at hdrop
        have HN := Lib.hid (HSm.out.snoc (b := false) hxd)
        have HQ : Hid (D ++ [(y2, false)] ++ hlN (rs.drop (k + 2)) = hlN rs) := Lib.hid (by rw [← HE.out, hdrop, (hl_esc _ _).1]; simp)
        have HK : Hid (okN (rs.drop (k + 2)) = true) := Lib.hid (by have h1 := HOk.out; rw [hdrop, (hl_esc _ _).2] at h1; exact h1)
        clear hdrop hy hy2 hud hx hu
        go_wp2_with (first | (at_builtin; refine wpList_append_own _ rfl _ _ 84 rfl w1.heap.size 9 iS (.string ByteArray.empty) 1 16 Tryd.underlying84 hiS hzS0 hzS1 hzS2 rfl (by decide) _ _ _ rfl (HO1.out.alloc _) ⟨wr.heap.size, 0, none⟩ 1 1 [.string x] rfl rfl (RP.one_new _ _ _) (fun x hx => by simp at hx; subst hx; rfl) (by unfold maxLen; omega) (by omega) (by simp; omega) ?_; intro v3 w3 hown3 hgrow3 hnil3; have HB3 := Lib.hid ((HB.out.alloc hbs (.cells #[.string x] 9)).grown hgrow3 (by simp; omega) (fun j hj => (HO1.out.lt j hj).1)); have HD3 := Lib.hid ((HO2.out.alloc (.cells #[.string x] 9)).kept hgrow3 (other_row HO1.out HO2.out (by decide))); have HS3 := Lib.hid hown3; have hbs3 := HB3.out.size; have hcell3 : ∀ j z, xs[j]? = some z → w3.cell? ⟨gx, ox + j, none⟩ = some (.string z) := (fun j z hj => (HB3.out.cell (p := ⟨gx, ox + j, none⟩) hgx).trans (HXC.out j z hj)); have HC3 := Lib.hid hcell3;  clear hown3 hgrow3 hnil3 hcell3) | (at_builtin; refine wpList_append_own _ rfl _ _ 169 rfl w1.heap.size 4 iB (.bool false) 1 1 Tryd.underlying169 hiB hzB0 hzB1 hzB2 rfl (by decide) _ _ _ rfl (HD3.out.alloc _) ⟨w3.heap.size, 0, none⟩ 1 1 [.bool (false)] rfl rfl (RP.one_new _ _ _) (fun x hx => by simp at hx; subst hx; rfl) (by unfold maxLen; omega) (by omega) (by simp; omega) ?_; intro v4 w4 hown4 hgrow4 hnil4; have HB4 := Lib.hid ((HB3.out.alloc hbs3 (.cells #[.bool (false)] 4)).grown hgrow4 (by simp; omega) (fun j hj => (HD3.out.lt j hj).1)); have HS4 := Lib.hid ((HS3.out.alloc (.cells #[.bool (false)] 4)).kept hgrow4 (other_row HD3.out HS3.out (by decide))); have HD4 := Lib.hid hown4; clear hown4 hgrow4 hnil4))
        have HR4 : Hid (TwoRows w1.heap.size w4 v3 v4 (done ++ [(x, false)])) := Lib.hid ⟨by rw [List.length_append, List.map_append]; exact HS4.out, by rw [List.length_append, List.map_append]; exact HD4.out⟩
        clear HS4 HD4 HS3 HD3
        go_wp2
        go_roundw
        case rel => exact ⟨k + 2, done ++ [(x, false)], D ++ [(y2, false)], by omega, by go_num, HR4.out, HB4.out, HN.out, HQ.out, HK.out, by simp; omega⟩
        case measure => simp [Go.RowKit.intOf]; omega
      · have he92 : (u.toList == [92]) = false := by
          have h1 := text_is (b := 92) hud hvy (by decide)
          rw [decide_eq_false h92] at h1
          rw [Lib.toList_data] at h1 ⊢
          rw [Lib.toList_data] at h1
          exact h1
        have he45 : (u.toList == [45]) = decide (y = 45) := by
          have h1 := text_is (b := 45) hud hvy (by decide)
          rw [Lib.toList_data] at h1 ⊢
          rw [Lib.toList_data] at h1
          exact h1
        obtain ⟨x, rfl⟩ : ∃ x, x = u := ⟨u, rfl⟩
        have HN := Lib.hid (HSm.out.snoc (b := decide (y = 45)) hud)
        have HQ : Hid (D ++ [(y, decide (y = 45))] ++ hlN (rs.drop (k + 1)) = hlN rs) := Lib.hid (by rw [← HE.out, hdrop, (hl_plain h92 _).1]; simp)
        have HK : Hid (okN (rs.drop (k + 1)) = true) := Lib.hid (by have h1 := HOk.out; rw [hdrop, (hl_plain h92 _).2] at h1; exact h1)
        generalize hb45 : decide (y = 45) = b45 at he45 HN HQ
        clear hdrop hy hud hb45 h92
        go_wp2_with (first | (at_builtin; refine wpList_append_own _ rfl _ _ 84 rfl w1.heap.size 9 iS (.string ByteArray.empty) 1 16 Tryd.underlying84 hiS hzS0 hzS1 hzS2 rfl (by decide) _ _ _ rfl (HO1.out.alloc _) ⟨wr.heap.size, 0, none⟩ 1 1 [.string x] rfl rfl (RP.one_new _ _ _) (fun x hx => by simp at hx; subst hx; rfl) (by unfold maxLen; omega) (by omega) (by simp; omega) ?_; intro v3 w3 hown3 hgrow3 hnil3; have HB3 := Lib.hid ((HB.out.alloc hbs (.cells #[.string x] 9)).grown hgrow3 (by simp; omega) (fun j hj => (HO1.out.lt j hj).1)); have HD3 := Lib.hid ((HO2.out.alloc (.cells #[.string x] 9)).kept hgrow3 (other_row HO1.out HO2.out (by decide))); have HS3 := Lib.hid hown3; have hbs3 := HB3.out.size; have hcell3 : ∀ j z, xs[j]? = some z → w3.cell? ⟨gx, ox + j, none⟩ = some (.string z) := (fun j z hj => (HB3.out.cell (p := ⟨gx, ox + j, none⟩) hgx).trans (HXC.out j z hj)); have HC3 := Lib.hid hcell3; have hcu3 := hcell3 k x hu; clear hown3 hgrow3 hnil3 hcell3) | (at_builtin; refine wpList_append_own _ rfl _ _ 169 rfl w1.heap.size 4 iB (.bool false) 1 1 Tryd.underlying169 hiB hzB0 hzB1 hzB2 rfl (by decide) _ _ _ rfl (HD3.out.alloc _) ⟨w3.heap.size, 0, none⟩ 1 1 [.bool (b45)] rfl rfl (RP.one_new _ _ _) (fun x hx => by simp at hx; subst hx; rfl) (by unfold maxLen; omega) (by omega) (by simp; omega) ?_; intro v4 w4 hown4 hgrow4 hnil4; have HB4 := Lib.hid ((HB3.out.alloc hbs3 (.cells #[.bool (b45)] 4)).grown hgrow4 (by simp; omega) (fun j hj => (HD3.out.lt j hj).1)); have HS4 := Lib.hid ((HS3.out.alloc (.cells #[.bool (b45)] 4)).kept hgrow4 (other_row HD3.out HS3.out (by decide))); have HD4 := Lib.hid hown4; clear hown4 hgrow4 hnil4))
        have HR4 : Hid (TwoRows w1.heap.size w4 v3 v4 (done ++ [(x, b45)])) := Lib.hid ⟨by rw [List.length_append, List.map_append]; exact HS4.out, by rw [List.length_append, List.map_append]; exact HD4.out⟩
        clear HS4 HD4 HS3 HD3
        go_wp2
        go_roundw
        case rel => exact ⟨k + 1, done ++ [(x, b45)], D ++ [(y, b45)], by omega, by go_num, HR4.out, HB4.out, HN.out, HQ.out, HK.out, by simp; omega⟩
        case measure => simp [Go.RowKit.intOf]; omega
    · have hz : ¬ (k : Int) < xs.length := by omega
      have hDE : D = hlN rs := by
        have h1 := HE.out
        rw [List.drop_of_length_le (by omega)] at h1
        simpa [hlN] using h1
      subst hDE
      have HLen := Lib.hid HSm.out.len
      have HVD := Lib.hid (hl_vr _ rs (Nat.le_refl _) HV.out)
      generalize hlN rs = D at HLen HVD HSm HE HRR
      have hdn : done.length ≤ 400 := by omega
      obtain ⟨la, lc, hl1, _, _, _, hl5⟩ := row_view2 HO1.out
      obtain ⟨ba, bc, hb1, hb5⟩ := row_viewB HO2.out
      subst hl1 hb1
      have HL5 := Lib.hid hl5
      have HB5 := Lib.hid hb5
      clear hl5 hb5
      go_wp2_with fail
      go_loop [9] (fun s9 => ∃ j : Nat, j ≤ done.length ∧ s9 = .int .i64 j ∧ hdN (D.drop j) yr = R) (fun s9 => done.length - (Go.RowKit.intOf s9).toNat)
      case atStart => exact ⟨0, Nat.zero_le _, rfl, HRR.out⟩
      case round =>
        obtain ⟨j, hj, rfl, hR⟩ := hrel
        by_cases hjl : j < done.length
        · have hjD : j < D.length := by have := HLen.out; omega
          obtain ⟨a, ha⟩ : ∃ a, D[j]? = some a := ⟨D[j], List.getElem?_eq_getElem hjD⟩
          obtain ⟨xa, hxa, hxad⟩ := HSm.out.at ha
          have hva := HVD.out a (List.mem_of_getElem? ha)
          obtain ⟨gl, ol, rfl, hgl, hlc⟩ := HL5.out (by omega)
          obtain ⟨gb, ob, rfl, hgb, hbc⟩ := HB5.out (by omega)
          have c0 := hlc j _ hxa
          have hjz : (j : Int) < done.length := by omega
          have heqa := text_eq hxad HYr.out hva HYv.out
          rw [drop_at2 ha] at hR
          by_cases hj2 : j + 2 < done.length
          · have hj2z : (j : Int) + 2 < done.length := by omega
            obtain ⟨b, hb⟩ : ∃ b, D[j + 1]? = some b := ⟨D[j + 1]'(by have := HLen.out; omega), List.getElem?_eq_getElem _⟩
            obtain ⟨cc, hc⟩ : ∃ cc, D[j + 2]? = some cc := ⟨D[j + 2]'(by have := HLen.out; omega), List.getElem?_eq_getElem _⟩
            obtain ⟨xb, hxb, hxbd⟩ := HSm.out.at hb
            obtain ⟨xc, hxc, hxcd⟩ := HSm.out.at hc
            have hvc := HVD.out cc (List.mem_of_getElem? hc)
            have c1 := hbc (j + 1) _ hxb
            have c2 := hlc (j + 2) _ hxc
            have hj1z : (j : Int) + 1 < done.length := by omega
            rw [drop_at2 hb, drop_at2 hc] at hR
            obtain ⟨b1, b2⟩ := b
            cases b2
            · -- no span
              rw [hd_one (.inr fun q hq => by simp only [List.head?_cons, Option.some.injEq] at hq; rw [← hq]), ← drop_at2 hc, ← drop_at2 hb] at hR
              by_cases hay : a.1 = yr
              · rw [decide_eq_true hay] at hR heqa
                rw [Bool.true_or] at hR
                subst hR
                clear ha hb hc hxa hxb hxc hlc hbc
                go_wp2_with fail
                go_ret
                exact ⟨rfl, HW.out.trans (HB.out.mono HW.out.size)⟩
              · rw [decide_eq_false hay] at hR heqa
                rw [Bool.false_or] at hR
                have HR := Lib.hid hR
                clear ha hb hc hxa hxb hxc hlc hbc hR
                go_wp2_with fail
                go_round
                case rel => exact ⟨j + 1, by omega, by go_num, HR.out⟩
                case measure => simp [Go.RowKit.intOf]; omega
            · rw [hd_span _ _ _ _ rfl] at hR
              unfold inSp at hR
              have le1 := text_le hxad HYr.out hva HYv.out
              have le2 := text_le HYr.out hxcd HYv.out hvc
              by_cases g1 : a.1 ≤ yr
              · rw [decide_eq_true g1] at hR le1
                by_cases g2 : yr ≤ cc.1
                · rw [decide_eq_true g2] at hR le2
                  simp only [Bool.and_self, Bool.true_or] at hR
                  subst hR
                  clear ha hb hc hxa hxb hxc hlc hbc heqa
                  go_wp2_with fail
                  go_ret
                  exact ⟨rfl, HW.out.trans (HB.out.mono HW.out.size)⟩
                · rw [decide_eq_false g2] at hR le2
                  simp only [Bool.and_false, Bool.false_or] at hR
                  have HR := Lib.hid hR
                  clear ha hb hc hxa hxb hxc hlc hbc hR heqa
                  go_wp2_with fail
                  go_round
                  case rel => exact ⟨j + 3, by omega, by go_num, HR.out⟩
                  case measure => simp [Go.RowKit.intOf]; omega
              · rw [decide_eq_false g1] at hR le1
                simp only [Bool.false_and, Bool.false_or] at hR
                have HR := Lib.hid hR
                clear ha hb hc hxa hxb hxc hlc hbc hR heqa
                go_wp2_with fail
                go_round
                case rel => exact ⟨j + 3, by omega, by go_num, HR.out⟩
                case measure => simp [Go.RowKit.intOf]; omega
          · have hj2z : ¬ (j : Int) + 2 < done.length := by omega
            have hshort : (D.drop (j + 1)).length < 2 := by have := HLen.out; rw [List.length_drop]; omega
            rw [hd_one (.inl hshort)] at hR
            by_cases hay : a.1 = yr
            · rw [decide_eq_true hay] at hR heqa
              rw [Bool.true_or] at hR
              subst hR
              clear ha hxa hlc hbc hshort
              go_wp2_with fail
              go_ret
              exact ⟨rfl, HW.out.trans (HB.out.mono HW.out.size)⟩
            · rw [decide_eq_false hay] at hR heqa
              rw [Bool.false_or] at hR
              have HR := Lib.hid hR
              clear ha hxa hlc hbc hR hshort
              go_wp2_with fail
              go_round
              case rel => exact ⟨j + 1, by omega, by go_num, HR.out⟩
              case measure => simp [Go.RowKit.intOf]; omega
        · have hjz : ¬ (j : Int) < done.length := by omega
          rw [List.drop_of_length_le (by have := HLen.out; omega), hdN] at hR
          subst hR
          go_wp2_with fail
          go_ret
          exact ⟨rfl, HW.out.trans (HB.out.mono HW.out.size)⟩
end RO
end Go.Proofs.YtechekdiadpmoaaDoor
end
