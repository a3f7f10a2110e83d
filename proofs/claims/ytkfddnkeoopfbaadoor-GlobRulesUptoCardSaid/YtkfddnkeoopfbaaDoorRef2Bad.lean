/- The document's answer: the first byte that is part of no rune. -/
import Derived.Test.YtkfddnkeoopfbaaDoorRefName
import Derived.Test.YtkfddnkeoopfbaaDoorRefParts
import Derived.Test.YtkfddnkeoopfbaaDoorGlobLitM
namespace Go.Proofs.YtkfddnkeoopfbaaDoor
open Go.RowKit Go.Lib
namespace RG
open GP LitN RN
def badB (t : List UInt8) : Bool := decide ((Lib.decodeL t).1 = 65533 ∧ (Lib.decodeL t).2 = 1)
theorem width_four (l : List UInt8) : (Lib.decodeL l).2 ≤ 4 := by
  rw [Lib.decodeL_N]
  rcases Lib.decodeN_shape l.length (l.getD 0 0).toNat (l.getD 1 0).toNat (l.getD 2 0).toNat (l.getD 3 0).toNat with ⟨_, e⟩ | ⟨_, _, _, _, e⟩ | ⟨_, _, _, _, _, _, e⟩ | ⟨_, _, _, _, _, _, _, e⟩ | e <;> rw [e] <;> simp
theorem not_bad {t : List UInt8} (h : badB t = false) : ¬ ((Lib.decodeL t).1 = 65533 ∧ (Lib.decodeL t).2 = 1) := of_decide_eq_false h
/-- The two ways to say that no rune begins here. -/
theorem bad_spoilt {t : List UInt8} (hne : t ≠ []) : ((Lib.decodeL t).1 = 65533 ∧ Lib.hasPrefix t [239, 191, 189] = false) ↔ badB t = true := by
  unfold badB
  rw [decide_eq_true_iff]
  constructor
  · rintro ⟨h1, h2⟩
    refine ⟨h1, ?_⟩
    by_cases hb : (Lib.decodeL t).2 = 1
    · exact hb
    · exfalso
      have hed := Lib.encode_decode t hne (fun h => hb h.2)
      rw [h1] at hed
      have e3 : Lib.encodeRune ((65533 : Nat) : Int) = [239, 191, 189] := by decide
      rw [e3] at hed
      have hp : Lib.hasPrefix t [239, 191, 189] = true := by
        unfold Lib.hasPrefix
        rw [hed]
        exact List.isPrefixOf_iff_prefix.2 (List.take_prefix _ _)
      rw [hp] at h2
      cases h2
  · rintro ⟨h1, h2⟩
    refine ⟨h1, ?_⟩
    cases hp : Lib.hasPrefix t [239, 191, 189]
    · rfl
    · exfalso
      unfold Lib.hasPrefix at hp
      obtain ⟨r, rfl⟩ := List.isPrefixOf_iff_prefix.1 hp
      have hd : Lib.decodeL [239, 191, 189] = (65533, 3) := by rw [Lib.decodeL_N]; decide
      rw [decode_app _ r (by simp) (by rw [hd]; simp), hd] at h2
      cases h2
theorem sp_bad {t : List UInt8} (hne : t ≠ []) (h : badB t = true) (a : Nat) : spR t a = some a := by
  rw [spR_step hne, if_pos ((bad_spoilt hne).2 h)]
theorem sp_good {t : List UInt8} (hne : t ≠ []) (h : badB t = false) (a : Nat) : spR t a = spR (t.drop (Lib.decodeL t).2) (a + (Lib.decodeL t).2) := by
  rw [spR_step hne, if_neg (fun e => by rw [(bad_spoilt hne).1 e] at h; cases h)]
theorem valid_good {t : List UInt8} (hne : t ≠ []) (h : Lib.validD t = true) : badB t = false ∧ Lib.validD (t.drop (Lib.decodeL t).2) = true := by
  rw [Lib.validD_step t hne] at h
  split at h
  · cases h
  · rename_i hb
    exact ⟨decide_eq_false hb, h⟩
theorem sp_skip : ∀ (n : Nat) (u t : List UInt8) (a : Nat), u.length ≤ n → Lib.validD u = true → spR (u ++ t) a = spR t (a + u.length)
  | 0, u, t, a, h, _ => by
    have : u = [] := List.eq_nil_of_length_eq_zero (by omega)
    subst this
    rfl
  | n + 1, u, t, a, h, hv => by
    by_cases hne : u = []
    · subst hne; rfl
    · have hw := Lib.decodeL_width u
      have hle := Lib.decodeL_le u hne
      obtain ⟨hb, hv2⟩ := valid_good hne hv
      have hd := decode_app u t hne (not_bad hb)
      have hb2 : badB (u ++ t) = false := by unfold badB; rw [hd]; exact hb
      rw [sp_good (by simp [hne]) hb2, hd, List.drop_append_of_le_length hle, sp_skip n _ t _ (by rw [List.length_drop]; omega) hv2, List.length_drop]
      congr 1
      omega
theorem sp_some : ∀ (n : Nat) (l : List UInt8) (a k : Nat), l.length ≤ n → spR l a = some k → ∃ j, k = a + j ∧ j < l.length ∧ Lib.validD (l.take j) = true ∧ badB (l.drop j) = true
  | 0, l, a, k, h, e => by
    have : l = [] := List.eq_nil_of_length_eq_zero (by omega)
    subst this
    rw [spR_nil] at e
    cases e
  | n + 1, l, a, k, h, e => by
    by_cases hne : l = []
    · subst hne
      rw [spR_nil] at e
      cases e
    · have hl : 0 < l.length := List.length_pos_iff.2 hne
      cases hb : badB l
      · have hw := Lib.decodeL_width l
        have hle := Lib.decodeL_le l hne
        rw [sp_good hne hb] at e
        obtain ⟨j, hj, hjl, hv, hbd⟩ := sp_some n _ _ k (by rw [List.length_drop]; omega) e
        rw [List.length_drop] at hjl
        refine ⟨(Lib.decodeL l).2 + j, by omega, by omega, ?_, by rw [List.drop_drop] at hbd; exact hbd⟩
        have ht : l.take ((Lib.decodeL l).2 + j) = l.take (Lib.decodeL l).2 ++ (l.drop (Lib.decodeL l).2).take j := List.take_add
        have hne2 : l.take (Lib.decodeL l).2 ++ (l.drop (Lib.decodeL l).2).take j ≠ [] := by
          intro e2
          have := congrArg List.length (List.append_eq_nil_iff.1 e2).1
          rw [List.length_take, List.length_nil] at this
          omega
        rw [ht, Lib.validD_step _ hne2, decode_pre l _ hne (not_bad hb), if_neg (not_bad hb), List.drop_append_of_le_length (by rw [List.length_take]; omega), List.drop_of_length_le (by rw [List.length_take]; omega), List.nil_append]
        exact hv
      · rw [sp_bad hne hb] at e
        cases e
        exact ⟨0, rfl, hl, rfl, hb⟩
/-- A rune's beginning: its own bytes are valid; of fewer, none are. -/
theorem good_take {t : List UInt8} (hne : t ≠ []) (h : badB t = false) : Lib.validD (t.take (Lib.decodeL t).2) = true := by
  have hle := Lib.decodeL_le t hne
  have hw := Lib.decodeL_width t
  have hl : 0 < t.length := List.length_pos_iff.2 hne
  have hne2 : t.take (Lib.decodeL t).2 ≠ [] := by
    intro e2
    have := congrArg List.length e2
    rw [List.length_take, List.length_nil] at this
    omega
  have hp := decode_pre t [] hne (not_bad h)
  rw [List.append_nil] at hp
  rw [Lib.validD_step _ hne2, hp, if_neg (not_bad h), List.drop_of_length_le (by rw [List.length_take]; omega)]
  rfl
theorem take_good {t : List UInt8} {n : Nat} (hn : 1 ≤ n) (hne : t ≠ []) (h : Lib.validD (t.take n) = true) : badB t = false := by
  have hl : 0 < t.length := List.length_pos_iff.2 hne
  have hne2 : t.take n ≠ [] := by
    intro e2
    have := congrArg List.length e2
    rw [List.length_take, List.length_nil] at this
    omega
  obtain ⟨hb, _⟩ := valid_good hne2 h
  have hd := decode_app (t.take n) (t.drop n) hne2 (not_bad hb)
  rw [List.take_append_drop] at hd
  unfold badB
  rw [hd]
  exact hb
def badI (l : List UInt8) : Int := match spR l 0 with
  | some k => k
  | none => -1
theorem bad_at {l : List UInt8} {k : Nat} (hk : k < l.length) (hv : Lib.validD (l.take k) = true) (hb : badB (l.drop k) = true) : badI l = k := by
  have hne : l.drop k ≠ [] := by
    intro e
    have := congrArg List.length e
    rw [List.length_drop, List.length_nil] at this
    omega
  have h := sp_skip _ (l.take k) (l.drop k) 0 (Nat.le_refl _) hv
  rw [List.take_append_drop, sp_bad hne hb, List.length_take, Nat.min_eq_left (by omega), Nat.zero_add] at h
  unfold badI
  rw [h]
theorem bad_none {l : List UInt8} (h : ∀ k, k < l.length → ¬ (Lib.validD (l.take k) = true ∧ badB (l.drop k) = true)) : badI l = -1 := by
  unfold badI
  cases hs : spR l 0 with
  | none => rfl
  | some k =>
    obtain ⟨j, _, hj, hv, hb⟩ := sp_some _ l 0 k (Nat.le_refl _) hs
    exact absurd ⟨hv, hb⟩ (h j hj)
end RG
end Go.Proofs.YtkfddnkeoopfbaaDoor
namespace Go.Proofs.YtkfddnkeoopfbaaDoor
open Go.RowKit Go.Lib
namespace RG
open GP LitN RN
def IntPost (v : Int) (w : World) (e : Ending) (w' : World) : Prop := e = .returned (.int .i64 v) ∧ w = w'
theorem take_of (s : ByteArray) (k : Nat) : (s.extract 0 k).data.toList = s.data.toList.take k := Lib.extract_from_zero s k
theorem drop_ne (s : ByteArray) (k : Nat) (h : k < s.size) : s.data.toList.drop k ≠ [] := by
  intro e
  have := congrArg List.length e
  rw [List.length_drop, ← Lib.size_eq, List.length_nil] at this
  omega
theorem bad_of (s : ByteArray) (k n : Nat) (h : k < s.size) (hn : ∀ m, 1 ≤ m → m < n → Lib.validD ((s.data.toList.drop k).take m) = false) (he : 4 < n ∨ s.size < k + n) : badB (s.data.toList.drop k) = true := by
  cases hb : badB (s.data.toList.drop k)
  · exfalso
    have hne := drop_ne s k h
    have h1 := good_take hne hb
    have hw := Lib.decodeL_width (s.data.toList.drop k)
    have h4 := width_four (s.data.toList.drop k)
    have hle := Lib.decodeL_le _ hne
    rw [List.length_drop, ← Lib.size_eq] at hle
    by_cases hlt : (Lib.decodeL (s.data.toList.drop k)).2 < n
    · rw [hn _ hw hlt] at h1
      cases h1
    · omega
  · rfl
set_option maxRecDepth 100000 in
set_option maxHeartbeats 1600000 in
theorem bad_any (s : ByteArray) (w : World) (hs : s.size ≤ 400) :
    Calls Tryd.prog 31 #[.string s] w (IntPost (badI s.data.toList) w) := by
  go_enter Tryd.func31, Tryd.ntmps31
  go_wp2_with fail
  go_loop [3] (fun s3 => ∃ k : Nat, k ≤ s.size ∧ s3 = .int .i64 k ∧ ∀ j, j < k → ¬ (Lib.validD (s.data.toList.take j) = true ∧ badB (s.data.toList.drop j) = true)) (fun s3 => s.size - (Go.RowKit.intOf s3).toNat)
  case atStart => exact ⟨0, Nat.zero_le _, rfl, fun j h => by omega⟩
  case round =>
    obtain ⟨k, hk, rfl, hall⟩ := hrel
    have Hall := Lib.hid hall
    clear hall
    by_cases hlt : k < s.size
    · have hz : (k : Int) < s.size := by omega
      have hkz : (k : Int) ≤ s.size := by omega
      have cV := valid_ref (s.extract 0 k) w (by rw [ByteArray.size_extract]; omega)
      rw [take_of] at cV
      cases hv : Lib.validD (s.data.toList.take k)
      · have HN : Hid (∀ j, j < k + 1 → ¬ (Lib.validD (s.data.toList.take j) = true ∧ badB (s.data.toList.drop j) = true)) := Lib.hid (fun j hj => by
          by_cases h : j < k
          · exact Hall.out j h
          · have : j = k := by omega
            subst this
            rw [hv]
            simp)
        rw [hv] at cV
        clear hv
        go_wp2_with fail
        refine cV.mono ?_
        rintro e w' ⟨rfl, rfl⟩
        clear cV
        go_wp2_with fail
        go_round
        case rel => exact ⟨k + 1, by omega, by go_num, HN.out⟩
        case measure => simp [Go.RowKit.intOf]; omega
      · rw [hv] at cV
        have Hv := Lib.hid hv
        clear hv
        go_wp2_with fail
        refine cV.mono ?_
        rintro e w' ⟨rfl, rfl⟩
        clear cV
        go_wp2_with fail
        go_loop [4] (fun s4 => ∃ n : Nat, 1 ≤ n ∧ n ≤ 5 ∧ s4 = .int .i64 n ∧ ∀ m, 1 ≤ m → m < n → Lib.validD ((s.data.toList.drop k).take m) = false) (fun s4 => 5 - (Go.RowKit.intOf s4).toNat)
        case atStart => exact ⟨1, by omega, by omega, rfl, fun m h1 h2 => by omega⟩
        case round =>
          obtain ⟨n, hn1, hn5, rfl, hno⟩ := hrel
          have Hno := Lib.hid hno
          clear hno
          by_cases h4 : n ≤ 4
          · have h4z : (n : Int) ≤ 4 := by omega
            have h4n : ¬ (4 : Int) < n := by omega
            by_cases hks : k + n ≤ s.size
            · have hksz : ((k : Int) + n) ≤ s.size := by omega
              have hksn : ¬ (s.size : Int) < ((k : Int) + n) := by omega
              have hkk : (k : Int) ≤ (k : Int) + n := by omega
              have cV2 := valid_ref (s.extract k (k + n)) w (by rw [ByteArray.size_extract]; omega)
              rw [Lib.extract_data, Nat.add_sub_cancel_left] at cV2
              cases hv2 : Lib.validD ((s.data.toList.drop k).take n)
              · have HN : Hid (∀ m, 1 ≤ m → m < n + 1 → Lib.validD ((s.data.toList.drop k).take m) = false) := Lib.hid (fun m h1 h2 => by
                  by_cases h : m < n
                  · exact Hno.out m h1 h
                  · have : m = n := by omega
                    subst this
                    exact hv2)
                rw [hv2] at cV2
                clear hv2
                go_wp2_with fail
                refine cV2.mono ?_
                rintro e w' ⟨rfl, rfl⟩
                clear cV2
                go_wp2_with fail
                go_round
                case rel => exact ⟨n + 1, by omega, by omega, by go_num, HN.out⟩
                case measure => simp [Go.RowKit.intOf]; omega
              · have HN : Hid (∀ j, j < k + 1 → ¬ (Lib.validD (s.data.toList.take j) = true ∧ badB (s.data.toList.drop j) = true)) := Lib.hid (fun j hj => by
                  by_cases h : j < k
                  · exact Hall.out j h
                  · have : j = k := by omega
                    subst this
                    rw [take_good hn1 (drop_ne s j hlt) hv2]
                    simp)
                rw [hv2] at cV2
                clear hv2
                go_wp2_with fail
                refine cV2.mono ?_
                rintro e w' ⟨rfl, rfl⟩
                clear cV2
                go_wp2_with fail
                go_round
                case rel => exact ⟨k + 1, by omega, by go_num, HN.out⟩
                case measure => simp [Go.RowKit.intOf]; omega
            · have hksz : ¬ ((k : Int) + n) ≤ s.size := by omega
              have hksn : (s.size : Int) < ((k : Int) + n) := by omega
              have HB : Hid (badI s.data.toList = k) := Lib.hid (bad_at (by rw [← Lib.size_eq]; exact hlt) Hv.out (bad_of s k n hlt Hno.out (.inr (by omega))))
              go_wp2_with fail
              go_ret
              exact ⟨by rw [HB.out]; rfl, rfl⟩
          · have h4z : ¬ (n : Int) ≤ 4 := by omega
            have h4n : (4 : Int) < n := by omega
            have HB : Hid (badI s.data.toList = k) := Lib.hid (bad_at (by rw [← Lib.size_eq]; exact hlt) Hv.out (bad_of s k n hlt Hno.out (.inl (by omega))))
            go_wp2_with fail
            go_ret
            exact ⟨by rw [HB.out]; rfl, rfl⟩
    · have hz : ¬ (k : Int) < s.size := by omega
      have HE : Hid (badI s.data.toList = -1) := Lib.hid (bad_none (fun j hj => Hall.out j (by rw [← Lib.size_eq] at hj; omega)))
      go_wp2_with fail
      go_ret
      exact ⟨by rw [HE.out]; rfl, rfl⟩
end RG
end Go.Proofs.YtkfddnkeoopfbaaDoor
