/- The document's answer for layer 1: the contracts of the reference's Valid and Name. -/
import Derived.Test.YtkfddnkeoopfbaaDoorRefRune
import Derived.Test.YtkfddnkeoopfbaaDoorNameFn
import Derived.Test.YtkfddnkeoopfbaaDoorKit
import Derived.Lib.ValidLaws
import Derived.Lib.TrimUEq
namespace Go.Proofs.YtkfddnkeoopfbaaDoor
open Go.RowKit Go.Lib
namespace RN
open RR

set_option maxRecDepth 100000 in
theorem rune_any (s : ByteArray) (i : Nat) (w : World) (hi : i < s.size) (hs : s.size ≤ 4611686018427387904) :
    Calls Tryd.prog 54 #[.string s, .int .i64 i] w (Ret (Rune s i) w) := by
  unfold Rune runeN
  have l0 := (s.get! i).toNat_lt
  by_cases a0 : (s.get! i).toNat < 128
  · rw [if_pos a0]; exact one s i w hi a0
  · rw [if_neg a0]
    by_cases a1 : 194 ≤ (s.get! i).toNat ∧ (s.get! i).toNat ≤ 223
    · rw [if_pos a1]
      by_cases n1 : i + 2 ≤ s.size
      · by_cases c1 : cont (s.get! (i + 1)).toNat
        · rw [if_pos ⟨by omega, c1⟩]; exact two_ok s i w n1 hs a1.1 a1.2 c1
        · rw [if_neg (fun h => c1 h.2)]
          unfold cont at c1
          by_cases d : (s.get! (i + 1)).toNat < 128
          · exact two_bad1a s i w n1 hs a1.1 a1.2 d
          · exact two_bad1b s i w n1 hs a1.1 a1.2 (by omega)
      · rw [if_neg (fun h => n1 (by omega))]; exact short2 s i w hi hs (by omega) a1.1 a1.2
    · rw [if_neg a1]
      by_cases a2 : 224 ≤ (s.get! i).toNat ∧ (s.get! i).toNat ≤ 239
      · rw [if_pos a2]
        by_cases n1 : i + 3 ≤ s.size
        · by_cases c1 : cont (s.get! (i + 1)).toNat
          · by_cases c2 : cont (s.get! (i + 2)).toNat
            · generalize hv : (((s.get! i).toNat - 224) * 64 + (s.get! (i + 1)).toNat - 128) * 64 + (s.get! (i + 2)).toNat - 128 = v
              by_cases b1 : v < 2048
              · rw [if_neg (fun h => h.2.2.2 (.inl b1))]; exact three_low s i w n1 hs a2.1 a2.2 c1 c2 (by rw [hv]; exact b1)
              · by_cases b2 : 55296 ≤ v ∧ v ≤ 57343
                · rw [if_neg (fun h => h.2.2.2 (.inr b2))]; exact three_sur s i w n1 hs a2.1 a2.2 c1 c2 (by rw [hv]; exact b2)
                · rw [if_pos ⟨by omega, c1, c2, by omega⟩]
                  by_cases b3 : v < 55296
                  · exact three_oka s i w n1 hs a2.1 a2.2 c1 c2 (by rw [hv]; omega)
                  · exact three_okb s i w n1 hs a2.1 a2.2 c1 c2 (by rw [hv]; omega)
            · rw [if_neg (fun h => c2 h.2.2.1)]
              have c2' := c2
              unfold cont at c2'
              by_cases d : (s.get! (i + 2)).toNat < 128
              · exact three_bad2a s i w n1 hs a2.1 a2.2 c1 d
              · exact three_bad2b s i w n1 hs a2.1 a2.2 c1 (by omega)
          · rw [if_neg (fun h => c1 h.2.1)]
            unfold cont at c1
            by_cases d : (s.get! (i + 1)).toNat < 128
            · exact three_bad1a s i w n1 hs a2.1 a2.2 d
            · exact three_bad1b s i w n1 hs a2.1 a2.2 (by omega)
        · rw [if_neg (fun h => n1 (by omega))]; exact short3 s i w hi hs (by omega) a2.1 a2.2
      · rw [if_neg a2]
        by_cases a3 : 240 ≤ (s.get! i).toNat ∧ (s.get! i).toNat ≤ 244
        · rw [if_pos a3]
          by_cases n1 : i + 4 ≤ s.size
          · by_cases c1 : cont (s.get! (i + 1)).toNat
            · by_cases c2 : cont (s.get! (i + 2)).toNat
              · by_cases c3 : cont (s.get! (i + 3)).toNat
                · generalize hv : ((((s.get! i).toNat - 240) * 64 + (s.get! (i + 1)).toNat - 128) * 64 + (s.get! (i + 2)).toNat - 128) * 64 + (s.get! (i + 3)).toNat - 128 = v
                  by_cases b1 : v < 65536
                  · rw [if_neg (fun h => h.2.2.2.2 (.inl b1))]; exact four_low s i w n1 hs a3.1 a3.2 c1 c2 c3 (by rw [hv]; exact b1)
                  · by_cases b2 : 1114111 < v
                    · rw [if_neg (fun h => h.2.2.2.2 (.inr b2))]; exact four_high s i w n1 hs a3.1 a3.2 c1 c2 c3 (by rw [hv]; exact b2)
                    · rw [if_pos ⟨by omega, c1, c2, c3, by omega⟩]
                      exact four_ok s i w n1 hs a3.1 a3.2 c1 c2 c3 (by rw [hv]; omega)
                · rw [if_neg (fun h => c3 h.2.2.2.1)]
                  have c3' := c3
                  unfold cont at c3'
                  by_cases d : (s.get! (i + 3)).toNat < 128
                  · exact four_bad3a s i w n1 hs a3.1 a3.2 c1 c2 d
                  · exact four_bad3b s i w n1 hs a3.1 a3.2 c1 c2 (by omega)
              · rw [if_neg (fun h => c2 h.2.2.1)]
                have c2' := c2
                unfold cont at c2'
                by_cases d : (s.get! (i + 2)).toNat < 128
                · exact four_bad2a s i w n1 hs a3.1 a3.2 c1 d
                · exact four_bad2b s i w n1 hs a3.1 a3.2 c1 (by omega)
            · rw [if_neg (fun h => c1 h.2.1)]
              unfold cont at c1
              by_cases d : (s.get! (i + 1)).toNat < 128
              · exact four_bad1a s i w n1 hs a3.1 a3.2 d
              · exact four_bad1b s i w n1 hs a3.1 a3.2 (by omega)
          · rw [if_neg (fun h => n1 (by omega))]; exact short4 s i w hi hs (by omega) a3.1 a3.2
        · rw [if_neg a3]
          by_cases d : (s.get! i).toNat ≤ 193
          · exact bad0 s i w hi (by omega) d
          · exact bad1 s i w hi (by omega) (by omega)
/-- no rune: the decoder's own word -/
theorem rune_dec (s : ByteArray) (i : Nat) : Rune s i = if (Utf8.decode s i).1 = 65533 ∧ (Utf8.decode s i).2 = 1 then 0 else (Utf8.decode s i).2 := by
  unfold Rune
  rw [runeN_eq _ _ _ _ _ (s.get! i).toNat_lt (s.get! (i + 1)).toNat_lt (s.get! (i + 2)).toNat_lt (s.get! (i + 3)).toNat_lt, decode_at]
theorem decode_pos (s : ByteArray) (i : Nat) : 1 ≤ (Utf8.decode s i).2 := by
  rw [decode_at]
  unfold decodeN
  repeat' split
  all_goals simp
theorem rune_le (s : ByteArray) (i : Nat) (h : i < s.size) : i + Rune s i ≤ s.size := by
  unfold Rune runeN
  repeat' split
  all_goals omega
theorem valid_at (s : ByteArray) (i : Nat) (h : i < s.size) : Lib.validD (s.data.toList.drop i) = if Rune s i = 0 then false else Lib.validD (s.data.toList.drop (i + Rune s i)) := by
  have hne : s.data.toList.drop i ≠ [] := by
    intro e
    have := congrArg List.length e
    rw [List.length_drop, ← Lib.size_eq, List.length_nil] at this
    omega
  rw [Lib.validD_step _ hne, decodeL_drop, rune_dec]
  by_cases hd : (Utf8.decode s i).1 = 65533 ∧ (Utf8.decode s i).2 = 1
  · rw [if_pos hd, if_pos (by rw [if_pos hd])]
  · have hp := decode_pos s i
    rw [if_neg hd, if_neg hd, if_neg (by omega), List.drop_drop]
set_option maxHeartbeats 800000 in
theorem valid_ref (s : ByteArray) (w : World) (hs : s.size ≤ 4611686018427387904) :
    Calls Tryd.prog 42 #[.string s] w fun e w' => e = .returned (.bool (Lib.validD s.data.toList)) ∧ w = w' := by
  go_enter Tryd.func42, Tryd.ntmps42
  go_wp2
  go_loop [3] (fun i => ∃ k : Nat, k ≤ s.size ∧ i = .int .i64 k ∧ Lib.validD s.data.toList = Lib.validD (s.data.toList.drop k)) (fun i => s.size - (Go.RowKit.intOf i).toNat)
  case atStart => exact ⟨0, Nat.zero_le _, rfl, rfl⟩
  case round =>
    obtain ⟨k, hk, rfl, hv⟩ := hrel
    have HV := Lib.hid hv
    clear hv
    by_cases hlt : k < s.size
    · have hz : (k : Int) < s.size := by omega
      have hst := valid_at s k hlt
      have cR := rune_any s k w hlt hs
      have hle := rune_le s k hlt
      generalize hr : Rune s k = r at hst cR hle
      clear hr
      by_cases h0 : r = 0
      · subst h0
        rw [if_pos rfl] at hst
        have H := Lib.hid hst
        clear hst
        go_wp2_with (go_at_call 54; refine cR.mono ?_; rintro e w' ⟨rfl, rfl⟩)
        go_ret
        exact ⟨by rw [HV.out, H.out]; rfl, rfl⟩
      · rw [if_neg h0] at hst
        have H := Lib.hid hst
        clear hst
        have hb : ((r : Int) == 0) = false := beq_eq_false_iff_ne.2 (by omega)
        go_wp2_with (go_at_call 54; refine cR.mono ?_; rintro e w' ⟨rfl, rfl⟩)
        go_round
        case rel => exact ⟨k + r, by omega, by go_num, by rw [HV.out, H.out]⟩
        case measure => simp [Go.RowKit.intOf]; omega
    · have hz : ¬ (k : Int) < s.size := by omega
      go_wp2
      go_ret
      refine ⟨?_, rfl⟩
      rw [HV.out, List.drop_of_length_le (by rw [← Lib.size_eq]; omega), Lib.validD_nil]
      rfl
end RN
end Go.Proofs.YtkfddnkeoopfbaaDoor
