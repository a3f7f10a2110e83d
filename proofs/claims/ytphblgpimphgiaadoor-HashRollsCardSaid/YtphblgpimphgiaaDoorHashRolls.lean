/- Layer 4: the statement on rolling along a text: its walk. -/
import Derived.Test.YtphblgpimphgiaaDoorHashAwake
import Derived.Laws.DeepStrings4
namespace Go.Proofs.YtphblgpimphgiaaDoor
open Go.RowKit Go.Lib
namespace HQ
open HP HS HR

/-- The window of n bytes that ends ahead of place i. -/
def win (l : List UInt8) (n i : Nat) : List UInt8 := (l.drop (i - n)).take n
theorem win_rolls (l : List UInt8) {n i : Nat} (hn : 1 ≤ n) (hni : n ≤ i) (hi : i < l.length) :
    rollL (weakL (win l n i)) (n : Int) (l.getD (i - n) 0) (l.getD i 0) = (weakL (win l n (i + 1)) : Nat) := by
  obtain ⟨m, rfl⟩ : ∃ m, n = m + 1 := ⟨n - 1, by omega⟩
  have h1 : l.drop (i - (m + 1)) = l.getD (i - (m + 1)) 0 :: l.drop (i - (m + 1) + 1) := by
    rw [List.drop_eq_getElem_cons (by omega), List.getD_eq_getElem?_getD, List.getElem?_eq_getElem (by omega)]
    rfl
  have e1 : win l (m + 1) i = l.getD (i - (m + 1)) 0 :: (l.drop (i - (m + 1) + 1)).take m := by
    unfold win
    rw [h1, List.take_succ_cons]
  have e2 : win l (m + 1) (i + 1) = (l.drop (i - (m + 1) + 1)).take m ++ [l.getD i 0] := by
    unfold win
    rw [show i + 1 - (m + 1) = i - (m + 1) + 1 by omega, List.take_add_one]
    congr 1
    rw [List.getElem?_drop, show i - (m + 1) + 1 + m = i by omega, List.getD_eq_getElem?_getD, List.getElem?_eq_getElem hi]
    rfl
  have hl : ((l.drop (i - (m + 1) + 1)).take m).length = m := by rw [List.length_take, List.length_drop]; omega
  rw [e1, e2]
  have h := weak_rolls (l.getD (i - (m + 1)) 0) (l.getD i 0) ((l.drop (i - (m + 1) + 1)).take m)
  rw [hl] at h
  exact h
theorem win_data (s : ByteArray) {n i : Nat} (hni : n ≤ i) : (s.extract (i - n) i).data.toList = win s.data.toList n i := by
  rw [Lib.extract_data, show i - (i - n) = n by omega]
  rfl
theorem idx_byte2 (p : ByteArray) (i : Nat) (h : i < p.size) (z : Int) (hz : z = i) :
    ∀ W, (Instr.index 9 (.string p) (.int .i64 z)).run Tryd.prog W = .ok (.int .u8 ((p.data.toList.getD i 0).toNat : Nat)) W := by
  subst hz
  intro W
  have h0 : 0 ≤ (i : Int) ∧ (i : Int) < (p.size : Int) := by omega
  rw [run_index_string W 9 p .i64 (i : Int) Tryd.underlying9, dif_pos h0]
  have e := Lib.data_getElem? p i h
  rw [List.getD_eq_getElem?_getD, e]
  rfl
set_option maxRecDepth 100000 in
set_option maxHeartbeats 1600000 in
theorem rolls_any (s : ByteArray) (n : Int) (w : World) (he : Env w) (hs : s.size ≤ maxLen) (h0 : -9223372036854775808 ≤ n) (h1 : n ≤ 9223372036854775807) :
    Calls Tryd.prog 5 #[.string s, .int .i64 n] w fun r w' => r = .returned (.bool true) ∧ Below w.heap.size w w' := by
  unfold maxLen at hs
  have cA := awake_any w he
  by_cases hno : n < 1 ∨ 300 < n ∨ (s.size : Int) < n
  · go_enter Tryd.func5, Tryd.ntmps5
    go_wp2_with fail
    refine cA.mono ?_
    rintro r w2 ⟨rfl, hb⟩
    rcases hno with hno | hno | hno
    · go_wp2_with fail
      go_ret
      exact ⟨rfl, hb⟩
    · have h2 : ¬ n < 1 := by omega
      go_wp2_with fail
      go_ret
      exact ⟨rfl, hb⟩
    · by_cases h2 : n < 1
      · go_wp2_with fail
        go_ret
        exact ⟨rfl, hb⟩
      · by_cases h3 : 300 < n
        · go_wp2_with fail
          go_ret
          exact ⟨rfl, hb⟩
        · go_wp2_with fail
          go_ret
          exact ⟨rfl, hb⟩
  · obtain ⟨m, rfl⟩ : ∃ m : Nat, n = m := ⟨n.toNat, by omega⟩
    have hm1 : ¬ (m : Int) < 1 := by omega
    have hm2 : ¬ (300 : Int) < m := by omega
    have hm3 : ¬ (s.size : Int) < m := by omega
    have hm4 : (m : Int) ≤ s.size := by omega
    have e0 : (s.extract 0 m).data.toList = win s.data.toList m m := by rw [take_of2]; unfold win; rw [Nat.sub_self, List.drop_zero]
    have c0 : ∀ W, Calls Tryd.prog 11 #[.string (s.extract 0 m)] W fun r w' => r = .returned (.int .u32 (weakL (win s.data.toList m m) : Nat)) ∧ W = w' := fun W => by
      have h := weak_all (s.extract 0 m) W (by rw [Lib.size_eq, take_of2, List.length_take, ← Lib.size_eq]; unfold maxLen; omega)
      rw [e0] at h
      exact h
    have C0 := Lib.hid c0
    clear c0 e0 hno h0 h1
    go_enter Tryd.func5, Tryd.ntmps5
    go_wp2_with fail
    refine cA.mono ?_
    rintro r w2 ⟨rfl, hb⟩
    have HB := Lib.hid hb
    clear hb cA
    go_wp2_with (go_at_call 11; refine (C0.out _).mono ?_; rintro r w3 ⟨rfl, rfl⟩)
    have hmN : 1 ≤ m := by omega
    have hmS : m ≤ s.size := by omega
    go_loopw [5, 6] (fun s5 s6 wr => ∃ i v : Nat, m ≤ i ∧ i ≤ s.size ∧ s6 = .int .i64 i ∧ s5 = .int .u32 v ∧ weakL (win s.data.toList m i) = v ∧ Below w.heap.size w wr) (fun _ s6 _ => s.size - (Go.RowKit.intOf s6).toNat)
    case atStart => exact ⟨m, _, Nat.le_refl _, hmS, rfl, rfl, rfl, HB.out⟩
    case round =>
      clear HB
      obtain ⟨i, v, hi1, hi2, rfl, rfl, hv, hb⟩ := hrel
      have HV := Lib.hid hv
      have HB := Lib.hid hb
      have hvl : v < 4294967296 := by rw [← hv]; exact weak_lt _
      clear hv hb
      by_cases hlt : i < s.size
      · have hz : (i : Int) < s.size := by omega
        by_cases hl2 : i < m + 200
        · have hz2 : (i : Int) < (m : Int) + 200 := by omega
          obtain ⟨j, hj⟩ : ∃ j : Nat, (i : Int) - m = j := ⟨i - m, by omega⟩
          have hji : j = i - m := by omega
          obtain ⟨o, ho⟩ : ∃ o, s.data.toList.getD j 0 = o := ⟨_, rfl⟩
          obtain ⟨b, hb⟩ : ∃ b, s.data.toList.getD i 0 = b := ⟨_, rfl⟩
          have i1 := idx_byte2 s j (by omega) (j : Int) rfl
          have i2 := idx_byte2 s i hlt (i : Int) rfl
          rw [ho] at i1
          rw [hb] at i2
          obtain ⟨v2, hv2⟩ : ∃ v2, weakL (win s.data.toList m (i + 1)) = v2 := ⟨_, rfl⟩
          have cR : ∀ W, Calls Tryd.prog 17 #[.int .u32 v, .int .i64 m, .int .u8 o.toNat, .int .u8 b.toNat] W fun r w' => r = .returned (.int .u32 (v2 : Nat)) ∧ W = w' := fun W => by
            have h := roll_any v (m : Int) o b W hvl (by omega) (by omega)
            have e := win_rolls s.data.toList hmN hi1 (by rw [← Lib.size_eq]; exact hlt)
            rw [← hji, ho, hb, HV.out, hv2] at e
            rw [e] at h
            exact h
          have cK : ∀ W, Calls Tryd.prog 11 #[.string (s.extract (j + 1) (i + 1))] W fun r w' => r = .returned (.int .u32 (v2 : Nat)) ∧ W = w' := fun W => by
            have e : (s.extract (j + 1) (i + 1)).data.toList = win s.data.toList m (i + 1) := by
              rw [show j + 1 = i + 1 - m by omega]
              exact win_data s (by omega)
            have h := weak_all (s.extract (j + 1) (i + 1)) W (by rw [Lib.size_eq, e]; unfold win; rw [List.length_take]; unfold maxLen; omega)
            rw [e, hv2] at h
            exact h
          have CR := Lib.hid cR
          have CK := Lib.hid cK
          have HV2 := Lib.hid hv2
          have hjz : (j : Int) + 1 ≤ s.size := by omega
          have hiz : (i : Int) + 1 ≤ s.size := by omega
          have hjiz : (j : Int) ≤ i := by omega
          have hsl : ∀ W, (Instr.slice 9 (.string s) (some (.int .i64 ((j : Int) + 1))) (some (.int .i64 ((i : Int) + 1))) none).run Tryd.prog W = .ok (.string (s.extract (j + 1) (i + 1))) W := fun W => by
            rw [run_slice_string_if (w := W) 9 s .i64 .i64 ((j : Int) + 1) ((i : Int) + 1) Tryd.underlying9, if_pos (by omega), if_pos (by omega)]
            rfl
          clear cR cK hv2 hvl hji ho hb
          go_wp2_with fail
          go_quiet ((go_at_call 17; exact Calls.quiet_of_same ((CR.out _).mono fun r w' h => ⟨h.1, h.2.symm⟩)))
          rename_i nq
          have HB3 : Hid (Below w.heap.size w (wr.drewN nq)) := Lib.hid ⟨HB.out.os, HB.out.tape, HB.out.output, HB.out.size, HB.out.block⟩
          generalize wr.drewN nq = w3 at HB3 ⊢
          go_wp2_with (go_at_call 11; refine (CK.out _).mono ?_; rintro r w4 ⟨rfl, rfl⟩)
          go_roundw
          case rel => exact ⟨i + 1, v2, by omega, by omega, by go_num, rfl, HV2.out, HB3.out⟩
          case measure => simp [Go.RowKit.intOf]; omega
        · have hz2 : ¬ (i : Int) < (m : Int) + 200 := by omega
          go_wp2_with fail
          go_ret
          exact ⟨rfl, HB.out⟩
      · have hz : ¬ (i : Int) < s.size := by omega
        go_wp2_with fail
        go_ret
        exact ⟨rfl, HB.out⟩
end HQ
end Go.Proofs.YtphblgpimphgiaaDoor
