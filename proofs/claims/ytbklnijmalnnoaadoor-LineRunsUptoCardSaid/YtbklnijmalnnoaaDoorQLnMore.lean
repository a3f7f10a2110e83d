/- Layer 15: the walk of LineMore. -/
import Derived.Test.YtbklnijmalnnoaaDoorQLnAw
set_option linter.all false
set_option maxRecDepth 100000
set_option maxHeartbeats 25600000
namespace Go.Proofs.YtbklnijmalnnoaaDoor
open Go.RowKit Go.Lib Go.BigFrame
namespace LN
open HP HS RP LP OM RQ HR RF
open HQ (Env crc_any)

theorem moreV_ok {n : Nat} {s : List UInt8} (hn : n < 4294967296) (hs : s.length ≤ MaxP) : moreV (n : Int) s = .returned (.tuple #[txt (frameL n s), .int .i64 0]) := by
  have hc : 0 ≤ (n : Int) ∧ (n : Int) < 4294967296 ∧ s.length ≤ MaxP := by omega
  unfold moreV moreT moreE
  rw [if_pos hc, if_pos hc, Int.toNat_natCast]
  rfl
set_option maxRecDepth 100000 in
set_option maxHeartbeats 6400000 in
theorem lmore_any (ao : Option Addr) (cap : Nat) (ls : List (List UInt8)) (more : List UInt8) (n : Int) (w : World) (he : Env w) (h : Lay w ao ls) (hm : (framesL 0 ls).length ≤ 1073741824) (hcap : ls.length ≤ cap) (hmm : more.length ≤ MaxP) (h0 : -9223372036854775808 ≤ n) (h1 : n ≤ 9223372036854775807) :
    Calls Tryd.prog 5 #[.slice ao ls.length cap, txt more, .int .i64 n] w fun r w' => r = .returned (.bool true) ∧ Below w.heap.size w w' := by
  have CA := Lib.hid (awake_any w he)
  obtain ⟨L, hL⟩ : ∃ L, ls.length = L := ⟨_, rfl⟩
  have hLm : L ≤ 1073741824 := by have := frames_count ls 0; omega
  have cP := fun W (hW : Below w.heap.size w W) => pack_any ao cap ls W (he.below hW) (h.below hW) hm
  obtain ⟨TM, hTM⟩ : ∃ T : ByteArray, ⟨more.toArray⟩ = T := ⟨_, rfl⟩
  rw [hL] at cP ⊢
  cases hbad : badT ls with
  | true =>
    rw [packV_bad hbad] at cP
    have CP := Lib.hid cP
    unfold txt
    rw [hTM]
    clear cP h hm hmm hbad he hL hTM
    go_enter Tryd.func5, Tryd.ntmps5
    repeat (first
      | (go_at_call 6; refine CA.out.mono ?_; rintro r w1 ⟨rfl, hb⟩; simp only []; have B1 := Lib.hid hb; clear hb)
      | (go_at_call 7; refine (CP.out _ B1.out).mono ?_; rintro r w2 ⟨rfl, hb⟩; simp only []; have B2 := Lib.hid (Below.trans B1.out (hb.mono B1.out.size)); clear hb)
      | go_skip | go_guarded | go_step | go_upon)
    go_ret
    exact ⟨rfl, B2.out⟩
  | false =>
    have hok := badT_no hbad
    rw [packV_ok hbad] at cP
    have cM := fun W (hW : Below w.heap.size w W) => more_any (L : Int) more W (he.below hW) (by omega) (by omega) (by unfold MaxP at hmm; unfold maxLen; omega)
    rw [moreV_ok (by omega) hmm] at cM
    obtain ⟨S, hS⟩ : ∃ S, framesL 0 ls = S := ⟨_, rfl⟩
    obtain ⟨F, hF⟩ : ∃ F, frameL L more = F := ⟨_, rfl⟩
    have hFl : F.length = more.length + 12 := by rw [← hF, frame_len]
    have hr1 : readL (S ++ F) = (ls ++ [more], true) := by
      rw [← hS, ← hF, ← hL]
      exact read_more ls more _ (Nat.le_refl _) hok hmm
    rw [hS] at hm
    unfold MaxP at hmm
    have cR := fun W (hW : Below w.heap.size w W) => read_call (S ++ F) W (he.below hW) (by rw [List.length_append]; omega)
    have cX := fun W a1 a2 d1 d2 (h1 : Lay W a1 ls) (h2 : Lay W a2 ls) => texts_same a1 a2 d1 d2 ls W h1 h2 (by unfold maxLen; omega)
    rw [hS] at cP
    rw [hF] at cM
    rw [hL] at cX
    unfold txt at cP cM cR ⊢
    obtain ⟨TS, hTS⟩ : ∃ T : ByteArray, ⟨S.toArray⟩ = T := ⟨_, rfl⟩
    obtain ⟨TF, hTF⟩ : ∃ T : ByteArray, ⟨F.toArray⟩ = T := ⟨_, rfl⟩
    obtain ⟨TSF, hTSF⟩ : ∃ T : ByteArray, ⟨(S ++ F).toArray⟩ = T := ⟨_, rfl⟩
    have b1 : TS ++ TF = TSF := by rw [← hTS, ← hTF, ← hTSF]; exact bytes_app _ _
    have s1 : TS.size + TF.size ≤ 9223372036854775807 := by rw [← hTS, ← hTF, Lib.size_eq, Lib.size_eq]; simp only []; omega
    rw [hTS] at cP
    rw [hTM, hTF] at cM
    rw [hTSF] at cR
    rw [hTM]
    have q1 := str_eq TM
    have CP := Lib.hid cP
    have CM := Lib.hid cM
    have CR := Lib.hid cR
    have CX := Lib.hid cX
    have HR1 := Lib.hid hr1
    have HL := Lib.hid h
    have HLL := Lib.hid hL
    have hlast : (ls ++ [more])[L]? = some more := by rw [← hL]; simp
    have HLa := Lib.hid hlast
    have htk : (ls ++ [more]).take L = ls := by rw [← hL]; simp
    have HTk := Lib.hid htk
    have HTMh := Lib.hid hTM
    have hll : (ls ++ [more]).length = L + 1 := by rw [List.length_append, hL]; rfl
    have HLl := Lib.hid hll
    have hcz : (L : Int) ≤ cap := by omega
    have hno : ¬ (0 ≤ n ∧ n ≠ (L : Int) ∧ n ≤ 1000000) ∨ ∃ k : Nat, n = k ∧ k ≠ L ∧ k ≤ 1000000 := by
      by_cases hh : 0 ≤ n ∧ n ≠ (L : Int) ∧ n ≤ 1000000
      · exact .inr ⟨n.toNat, by omega, by omega, by omega⟩
      · exact .inl hh
    have hk : ∀ k : Nat, k ≠ L → k ≤ 1000000 → ∃ (X XS : ByteArray), (TS ++ X = XS) ∧ (TS.size + X.size ≤ 9223372036854775807) ∧ Hid (∀ W, Below w.heap.size w W → Calls Tryd.prog 14 #[.int .i64 k, .string TM] W (fun r w' => r = .returned (.tuple #[.string X, .int .i64 0]) ∧ Below W.heap.size W w')) ∧
        Hid (∀ W, Below w.heap.size w W → Calls Tryd.prog 11 #[.string XS] W (fun r w' => ∃ ao c, r = .returned (.tuple #[.slice ao L c, .int .i64 150]) ∧ Lay w' ao ls ∧ Below W.heap.size W w')) := fun k hk hk2 => by
      refine ⟨⟨(frameL k more).toArray⟩, ⟨(S ++ frameL k more).toArray⟩, by rw [← hTS]; exact bytes_app _ _, ?_, Lib.hid fun W hW => ?_, Lib.hid fun W hW => ?_⟩
      · rw [← hTS, Lib.size_eq, Lib.size_eq]
        have := frame_len k more
        simp only []
        omega
      · have h := more_any (k : Int) more W (he.below hW) (by omega) (by omega) (by unfold maxLen; omega)
        rw [moreV_ok (by omega) (by unfold MaxP; omega)] at h
        unfold txt at h
        rw [hTM] at h
        exact h
      · have hr2 : readL (S ++ frameL k more) = (ls, false) := by
          rw [← hS]
          exact read_other ls more _ k (Nat.le_refl _) hok (by unfold MaxP; omega) (by omega) (by omega) (by omega)
        have h := read_call (S ++ frameL k more) W (he.below hW) (by rw [List.length_append, frame_len]; omega)
        refine h.mono fun r w' hp => ?_
        obtain ⟨ao, c, e1, e2, _, e3⟩ := RdPost.out hp hr2
        rw [hL] at e1
        exact ⟨ao, c, e1, e2, e3⟩
    have HK := Lib.hid hk
    clear cP cM cR cX hr1 h hm hmm hbad he hL hTM hok hS hF hFl hTS hTF hTSF hlast htk hll hk hcap
    go_enter Tryd.func5, Tryd.ntmps5
    repeat (first
      | (go_at_call 6; refine CA.out.mono ?_; rintro r w1 ⟨rfl, hb⟩; simp only []; have B1 := Lib.hid hb; clear hb)
      | (go_at_call 7; refine (CP.out _ B1.out).mono ?_; rintro r w2 ⟨rfl, hb⟩; simp only []; have B2 := Lib.hid (Below.trans B1.out (hb.mono B1.out.size)); clear hb)
      | (go_at_call 14; refine (CM.out _ B2.out).mono ?_; rintro r w3 ⟨rfl, hb⟩; simp only []; have B3 := Lib.hid (Below.trans B2.out (hb.mono B2.out.size)); clear hb)
      | (go_at_call 11; fail)
      | go_skip | go_guarded | go_step | go_upon)
    refine (CR.out _ B3.out).mono ?_
    rintro r w4 hp
    obtain ⟨a4, c4, hr4, hl4, hk4, hb4⟩ := RdPost.out hp HR1.out
    rw [HLl.out] at hr4 hk4
    have hcz4 : (L : Int) ≤ c4 := by omega
    have hcz5 : (L : Int) + 1 ≤ c4 := by omega
    subst hr4
    simp only [if_true]
    have B4 := Lib.hid (Below.trans B3.out (hb4.mono B3.out.size))
    obtain ⟨g, o, rfl, hg4, hc4⟩ := hl4 (by rw [HLl.out]; omega)
    have c0 := hc4 L more HLa.out
    unfold txt at c0
    rw [HTMh.out] at c0
    have HL4 : Hid (Lay w4 (some ⟨g, o, none⟩) ls) := Lib.hid (by
      have h := Lay.take hl4 L
      rw [HTk.out] at h
      exact h)
    clear hp hl4 hb4 hc4
    have hL1 : ((L : Int) + 1 == (L : Int) + 1) = true := by simp
    repeat (first
      | (go_at_call 13; fail)
      | go_skip | go_guarded | go_step | go_upon)
    refine (CX.out _ _ _ _ _ HL4.out (HL.out.below B4.out)).mono ?_
    rintro r w5 ⟨rfl, hb⟩
    simp only []
    have B5 := Lib.hid (Below.trans B4.out (hb.mono B4.out.size))
    clear hb
    rcases hno with hno | ⟨k, rfl, hkL, hkm⟩
    · by_cases a1 : n < 0
      · repeat (first | go_skip | go_guarded | go_step | go_upon)
        go_ret
        exact ⟨rfl, B5.out⟩
      · by_cases a2 : n = (L : Int)
        · subst a2
          have q3 : ((L : Int) == (L : Int)) = true := by simp
          repeat (first | go_skip | go_guarded | go_step | go_upon)
          go_ret
          exact ⟨rfl, B5.out⟩
        · have q3 : (n == (L : Int)) = false := by simpa using a2
          have a3 : (1000000 : Int) < n := by omega
          repeat (first | go_skip | go_guarded | go_step | go_upon)
          go_ret
          exact ⟨rfl, B5.out⟩
    · obtain ⟨X, XS, e1, e2, hX, hXS⟩ := HK.out k hkL hkm
      have a1 : ¬ (k : Int) < 0 := by omega
      have q3 : ((k : Int) == (L : Int)) = false := by simp; omega
      have a3 : ¬ (1000000 : Int) < k := by omega
      repeat (first
        | (go_at_call 14; refine (hX.out _ B5.out).mono ?_; rintro r w6 ⟨rfl, hb⟩; simp only []; have B6 := Lib.hid (Below.trans B5.out (hb.mono B5.out.size)); clear hb)
        | (go_at_call 11; refine (hXS.out _ B6.out).mono ?_; rintro r w7 ⟨a7, c7, rfl, hl, hb⟩; simp only []; have B7 := Lib.hid (Below.trans B6.out (hb.mono B6.out.size)); have HL7 := Lib.hid hl; clear hb hl)
        | (go_at_call 13; refine (CX.out _ _ _ _ _ HL7.out (HL.out.below B7.out)).mono ?_; rintro r w8 ⟨rfl, hb⟩; simp only []; have B8 := Lib.hid (Below.trans B7.out (hb.mono B7.out.size)); clear hb)
        | go_skip | go_guarded | go_step | go_upon)
      go_ret
      exact ⟨rfl, B8.out⟩
end LN
end Go.Proofs.YtbklnijmalnnoaaDoor
