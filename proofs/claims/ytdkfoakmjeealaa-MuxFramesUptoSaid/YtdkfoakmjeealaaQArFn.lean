/- Layer 3: how a reader lies in memory; the contracts of the readers' inner functions (left, fail, take, stopped, oneWay, number, counted). -/
import Derived.Test.YtdkfoakmjeealaaQCodePlain
import Derived.Test.YtdkfoakmjeealaaQFoot
import Derived.Test.YtdkfoakmjeealaaChecked
import Derived.WalkKit
import Derived.WalkMore
import Derived.IntWalk
import Derived.Below
import Derived.Lib.Hide
import Derived.OwnWalk
import Derived.Laws.BitsAllLaws
import Derived.Lib.IndexBytes
set_option linter.all false
set_option maxRecDepth 100000
set_option maxHeartbeats 25600000
namespace Go.Proofs.Ytdkfoakmjeealaa
open Go.RowKit Go.Lib
namespace CR
open CP

/-- A reader in block bk: the bytes that are left, and its fault. -/
structure RdAt (bk : Nat) (s : ByteArray) (f : Int) (w : World) : Prop where
  c0 : w.cell? ⟨bk, 0, none⟩ = some (.string s)
  c1 : w.cell? ⟨bk, 1, none⟩ = some (.int .i64 f)
  f0 : w.frozen? ⟨bk, 0, none⟩ = false
  f1 : w.frozen? ⟨bk, 1, none⟩ = false
  lt : bk < w.heap.size
theorem RdAt.out {bk : Nat} {S : Nat → Prop} {s : ByteArray} {f : Int} {w w' : World} (h : RdAt bk s f w) (hb : FP.Out S w w') (hS : ¬ S bk) : RdAt bk s f w' :=
  ⟨by rw [hb.cell (p := ⟨bk, 0, none⟩) h.lt hS]; exact h.c0, by rw [hb.cell (p := ⟨bk, 1, none⟩) h.lt hS]; exact h.c1, by rw [hb.frozen (p := ⟨bk, 0, none⟩) h.lt hS]; exact h.f0, by rw [hb.frozen (p := ⟨bk, 1, none⟩) h.lt hS]; exact h.f1, Nat.lt_of_lt_of_le h.lt hb.size⟩
theorem RdAt.set0 {bk : Nat} {s : ByteArray} {f : Int} {w : World} (h : RdAt bk s f w) (t : ByteArray) : RdAt bk t f (w.setCell ⟨bk, 0, none⟩ (.string t)) :=
  ⟨World.cell?_setCell_same _ _ _ h.c0, by rw [World.cell?_setCell_other _ _ _ _ (by simp)]; exact h.c1, by rw [World.frozen?_setCell]; exact h.f0, by rw [World.frozen?_setCell]; exact h.f1, by rw [World.size_setCell]; exact h.lt⟩
theorem RdAt.set1 {bk : Nat} {s : ByteArray} {f : Int} {w : World} (h : RdAt bk s f w) (e : Int) : RdAt bk s e (w.setCell ⟨bk, 1, none⟩ (.int .i64 e)) :=
  ⟨by rw [World.cell?_setCell_other _ _ _ _ (by simp)]; exact h.c0, World.cell?_setCell_same _ _ _ h.c1, by rw [World.frozen?_setCell]; exact h.f0, by rw [World.frozen?_setCell]; exact h.f1, by rw [World.size_setCell]; exact h.lt⟩
theorem RdAt.keep {bk B : Nat} {s : ByteArray} {f : Int} {w w' : World} (h : RdAt bk s f w) (hb : Below B w w') (hB : bk < B) : RdAt bk s f w' :=
  ⟨by rw [hb.cell (p := ⟨bk, 0, none⟩) hB]; exact h.c0, by rw [hb.cell (p := ⟨bk, 1, none⟩) hB]; exact h.c1, by rw [hb.frozen (p := ⟨bk, 0, none⟩) hB]; exact h.f0, by rw [hb.frozen (p := ⟨bk, 1, none⟩) hB]; exact h.f1, Nat.lt_of_lt_of_le h.lt hb.size⟩
abbrev ptr (bk : Nat) : Value := .pointer (some ⟨bk, 0, none⟩)
theorem left_any (bk : Nat) (s : ByteArray) (f : Int) (w : World) (h : RdAt bk s f w) (hs : s.size ≤ maxLen) :
    Calls Try.prog 61 #[ptr bk] w fun e w' => e = .returned (.int .i64 s.size) ∧ w = w' := by
  obtain ⟨c0, c1, f0, f1, lt⟩ := h
  have _ := hs
  go_enter Try.func61, Try.ntmps61
  go_wp2
  go_ret
  exact ⟨rfl, rfl⟩
theorem fail_any (bk : Nat) (s : ByteArray) (f : Int) (e : Int) (w : World) (h : RdAt bk s f w) :
    Calls Try.prog 58 #[ptr bk, .int .i64 e] w fun r w' => r = .returned (.tuple #[]) ∧ RdAt bk s e w' ∧ FP.Out (· = bk) w w' := by
  obtain ⟨c0, c1, f0, f1, lt⟩ := h
  have Hlt := Lib.hid lt
  have Hc0 := Lib.hid c0
  have Hf0 := Lib.hid f0
  have Hf1 := Lib.hid f1
  go_enter Try.func58, Try.ntmps58
  go_wp2
  go_end0
  exact ⟨rfl, (RdAt.mk Hc0.out c1 Hf0.out Hf1.out Hlt.out).set1 _, (FP.Out.refl (· = bk) _).setCell (p := ⟨bk, 1, none⟩) (fun _ => rfl) _⟩
theorem take_any (bk n : Nat) (s : ByteArray) (f : Int) (w : World) (h : RdAt bk s f w) (hs : s.size ≤ maxLen) (hn : n ≤ s.size) :
    Calls Try.prog 59 #[ptr bk, .int .i64 n] w fun r w' => r = .returned (.string (s.extract 0 n)) ∧ RdAt bk (s.extract n s.size) f w' ∧ FP.Out (· = bk) w w' := by
  obtain ⟨c0, c1, f0, f1, lt⟩ := h
  have _ := hs
  have hn2 : (n : Int) ≤ s.size := by omega
  go_enter Try.func59, Try.ntmps59
  go_wp2
  go_ret
  exact ⟨rfl, (RdAt.mk c0 c1 f0 f1 lt).set0 _, (FP.Out.refl (· = bk) _).setCell (p := ⟨bk, 0, none⟩) (fun _ => rfl) _⟩
theorem stopped_no (bk : Nat) (s : ByteArray) (w : World) (h : RdAt bk s 0 w) :
    Calls Try.prog 56 #[ptr bk] w fun r w' => r = .returned (.bool false) ∧ w = w' := by
  obtain ⟨c0, c1, f0, f1, lt⟩ := h
  go_enter Try.func56, Try.ntmps56
  go_wp2
  go_ret
  exact ⟨rfl, rfl⟩
theorem stopped_yes (bk : Nat) (s : ByteArray) (f : Int) (w : World) (h : RdAt bk s f w) (hf : f ≠ 0) :
    Calls Try.prog 56 #[ptr bk] w fun r w' => r = .returned (.bool true) ∧ w = w' := by
  obtain ⟨c0, c1, f0, f1, lt⟩ := h
  have hfb : (f != 0) = true := by simpa using hf
  go_enter Try.func56, Try.ntmps56
  go_wp2
  go_ret
  exact ⟨rfl, rfl⟩
theorem one_way (x wd b : Int) (w : World) :
    Calls Try.prog 67 #[.int .i64 x, .int .i64 wd, .int .i64 b] w fun r w' =>
      r = .returned (if b = 0 ∧ 1 < wd then .tuple #[.int .i64 0, .int .i64 0, .int .i64 31] else .tuple #[.int .i64 x, .int .i64 wd, .int .i64 0]) ∧ w = w' := by
  by_cases h0 : b = 0
  · subst h0
    by_cases h1 : 1 < wd
    · rw [if_pos ⟨rfl, h1⟩]
      go_enter Try.func67, Try.ntmps67
      go_wp2
      go_ret3
      exact ⟨rfl, rfl⟩
    · rw [if_neg (fun h => h1 h.2)]
      go_enter Try.func67, Try.ntmps67
      go_wp2
      go_ret3
      exact ⟨rfl, rfl⟩
  · rw [if_neg (fun h => h0 h.1)]
    have hb : (b == 0) = false := by simpa using h0
    go_enter Try.func67, Try.ntmps67
    go_wp2
    go_ret3
    exact ⟨rfl, rfl⟩
theorem ofInt_i64 (a : Nat) (ha : a < 2 ^ 63) : (BitVec.ofInt 64 (a : Int)).toNat = a := by
  rw [BitVec.ofInt_natCast, BitVec.toNat_ofNat]; exact Nat.mod_eq_of_lt (by omega)
theorem or_i64 (a b : Nat) (ha : a < 2 ^ 63) (hb : b < 2 ^ 63) : bits .or .i64 (a : Int) (b : Int) = ((a ||| b : Nat) : Int) := by
  have hx : a ||| b < 2 ^ 63 := Nat.or_lt_two_pow ha hb
  show IntKind.i64.wrap ((BitVec.ofInt 64 (a : Int) ||| BitVec.ofInt 64 (b : Int)).toNat : Int) = _
  rw [BitVec.toNat_or, ofInt_i64 a ha, ofInt_i64 b hb, IntKind.wrap_i64]
  omega
theorem wrap64_nat {n : Nat} (h : n < 2 ^ 63) : wrap64 (n : Int) = n := by unfold wrap64; omega
theorem or_step {v k b : Nat} (hk : k < 9) (hv : v < 128 ^ k) (hb : b < 256) : bits .or .i64 (v : Int) (wrap64 ((wrap64 (b : Int)).tmod 128 * 2 ^ (7 * k))) = ((v + b % 128 * 128 ^ k : Nat) : Int) := by
  have ep : (128 : Nat) ^ k = 2 ^ (7 * k) := by rw [Nat.pow_mul]
  have h0 : b % 128 < 128 := by omega
  have e0 : (wrap64 (b : Int)).tmod 128 = ((b % 128 : Nat) : Int) := by
    rw [wrap64_nat (by omega), Int.tmod_eq_emod_of_nonneg (by omega)]
    omega
  rw [e0]
  generalize b % 128 = c at h0
  rw [ep] at hv ⊢
  have h63 : c * 2 ^ (7 * k) < 2 ^ 63 := by
    have h1 : c * 2 ^ (7 * k) < 2 ^ 7 * 2 ^ (7 * k) := Nat.mul_lt_mul_of_pos_right h0 (Nat.pow_pos (by decide))
    rw [← Nat.pow_add] at h1
    exact Nat.lt_of_lt_of_le h1 (Nat.pow_le_pow_right (by decide) (by omega))
  have hv63 : v < 2 ^ 63 := Nat.lt_of_lt_of_le hv (Nat.pow_le_pow_right (by decide) (by omega))
  have ec : (c : Int) * 2 ^ (7 * k) = ((c * 2 ^ (7 * k) : Nat) : Int) := by
    rw [Int.natCast_mul, Int.natCast_pow]
    rfl
  rw [ec, wrap64_nat h63, or_i64 v _ hv63 h63]
  congr 1
  rw [Nat.or_comm, Nat.mul_comm, ← Nat.two_pow_add_eq_or_of_lt hv, Nat.add_comm]
theorem or_step2 {v k b : Nat} (hk : k < 9) (hv : v < 128 ^ k) (hb : b < 256) : bits .or .i64 (v : Int) (wrap64 ((b : Int) % 128 * 2 ^ (7 * k))) = ((v + b % 128 * 128 ^ k : Nat) : Int) := by
  have e := or_step hk hv hb
  rw [wrap64_nat (by omega), Int.tmod_eq_emod_of_nonneg (by omega)] at e
  exact e
theorem rd_at {l : List UInt8} {k v : Nat} {b : UInt8} (hb : l[k]? = some b) (hk : k < 9) : rd k v (l.drop k) = if b.toNat < 128 then (if b = 0 ∧ 0 < k then (0, 0, 31) else (v + b.toNat * 128 ^ k, k + 1, 0)) else rd (k + 1) (v + b.toNat % 128 * 128 ^ k) (l.drop (k + 1)) := by
  obtain ⟨hlt, rfl⟩ := List.getElem?_eq_some_iff.1 hb
  rw [List.drop_eq_getElem_cons hlt]
  rw [rd, if_neg (by omega)]
theorem rd_stop {l : List UInt8} {k v : Nat} (hk9 : k ≤ 9) (hk : k ≤ l.length) (h : ¬ (k < l.length ∧ k < 9)) : rd k v (l.drop k) = (0, 0, if k = 9 then 31 else 30) := by
  by_cases h9 : k = 9
  · rw [if_pos h9]
    cases hd : l.drop k with
    | nil => rw [rd, if_pos h9]
    | cons b r => rw [rd, if_pos h9]
  · have e : k = l.length := by omega
    rw [e, List.drop_length, rd]
theorem step_lt {v k b : Nat} (hv : v < 128 ^ k) : v + b % 128 * 128 ^ k < 128 ^ (k + 1) := by
  have h0 : b % 128 + 1 ≤ 128 := by omega
  have := Nat.mul_le_mul_right (128 ^ k) h0
  rw [Nat.add_mul] at this
  rw [Nat.pow_succ]
  omega
set_option maxRecDepth 100000 in
set_option maxHeartbeats 1600000 in
theorem number_any (bk : Nat) (s : ByteArray) (f : Int) (w : World) (h : RdAt bk s f w) (hs : s.size ≤ maxLen) :
    Calls Try.prog 57 #[ptr bk] w fun r w' => r = .returned (.tuple #[.int .i64 (rd 0 0 s.data.toList).1, .int .i64 (rd 0 0 s.data.toList).2.1, .int .i64 (rd 0 0 s.data.toList).2.2]) ∧ w = w' := by
  have cL := left_any bk s f w h hs
  have cW := one_way
  obtain ⟨c0, c1, f0, f1, lt⟩ := h
  unfold maxLen at hs
  obtain ⟨R, hR⟩ : ∃ R, rd 0 0 s.data.toList = R := ⟨_, rfl⟩
  rw [hR]
  have HR := Lib.hid hR
  have HS := Lib.hid (Lib.size_eq s)
  clear hR
  go_enter Try.func57, Try.ntmps57
  go_wp2
  go_loop [2, 3] (fun s2 s3 => ∃ k v : Nat, k ≤ 9 ∧ k ≤ s.size ∧ s3 = .int .i64 k ∧ s2 = .int .i64 v ∧ v < 128 ^ k ∧ rd k v (s.data.toList.drop k) = R) (fun _ s3 => 9 - (Go.RowKit.intOf s3).toNat)
  case atStart => exact ⟨0, 0, by omega, by omega, rfl, rfl, by decide, HR.out⟩
  case round =>
    obtain ⟨k, v, hk9, hks, rfl, rfl, hv, hrd⟩ := hrel
    have Hv := Lib.hid hv
    have Hrd := Lib.hid hrd
    clear hv hrd
    by_cases hlt : k < s.size ∧ k < 9
    · obtain ⟨h1, h2⟩ := hlt
      have hz1 : (k : Int) < s.size := by omega
      have hz2 : (k : Int) < 9 := by omega
      have Hget := Lib.hid (rd_at (v := v) (Lib.data_getElem? s k h1) h2)
      have Hor := Lib.hid (or_step h2 Hv.out (s[k]).toNat_lt)
      have Hor2 := Lib.hid (or_step2 h2 Hv.out (s[k]).toNat_lt)
      by_cases hl : (s[k]).toNat < 128
      · have hlz : ((s[k].toNat : Nat) : Int) < 128 := by omega
        have Hl := Lib.hid hl
        clear hl
        go_wp2_with fail
        refine cL.mono ?_
        rintro e w1 ⟨rfl, rfl⟩
        by_cases hm : (s.size : Int) ≤ 9
        all_goals
          go_wp2_with fail
          refine (cW _ _ _ _).mono ?_
          rintro e w2 ⟨rfl, rfl⟩
          by_cases hz : s[k] = 0 ∧ 0 < k
          · rw [if_pos (by rw [hz.1]; exact ⟨rfl, by omega⟩)]
            have HF := Lib.hid (show R = (0, 0, 31) by rw [← Hrd.out, Hget.out, if_pos Hl.out, if_pos hz])
            go_wp2
            go_ret3
            exact ⟨by rw [HF.out]; rfl, rfl⟩
          · rw [if_neg (by rintro ⟨h0, h3⟩; exact hz ⟨UInt8.toNat_inj.1 (by show _ = 0; omega), by omega⟩)]
            have HF := Lib.hid (show R = (v + s[k].toNat * 128 ^ k, k + 1, 0) by rw [← Hrd.out, Hget.out, if_pos Hl.out, if_neg hz])
            go_wp2
            go_ret3
            exact ⟨by rw [HF.out]; first | rw [Hor.out] | rw [Hor2.out]; rw [Nat.mod_eq_of_lt Hl.out]; go_num, rfl⟩
      · have hlz : ¬ ((s[k].toNat : Nat) : Int) < 128 := by omega
        have hu : ((s[k].toNat : Nat) : Int) < 256 := by have := (s[k]).toNat_lt; omega
        have Hl := Lib.hid hl
        clear hl
        go_wp2_with fail
        refine cL.mono ?_
        rintro e w1 ⟨rfl, rfl⟩
        by_cases hm : (s.size : Int) ≤ 9
        all_goals
          go_wp2_with fail
          go_round
          case rel => exact ⟨k + 1, v + s[k].toNat % 128 * 128 ^ k, by omega, by omega, by go_num, by first | rw [Hor.out] | rw [Hor2.out], step_lt Hv.out, by rw [← Hrd.out, Hget.out, if_neg Hl.out]⟩
          case measure => simp [Go.RowKit.intOf]; omega
    · have Hst := Lib.hid (rd_stop (v := v) hk9 (by rw [← HS.out]; exact hks) (by rw [← HS.out]; exact hlt))
      go_wp2_with fail
      refine cL.mono ?_
      rintro e w1 ⟨rfl, rfl⟩
      by_cases h9 : k = 9
      · subst h9
        go_wp2
        all_goals
          go_ret3
          exact ⟨by rw [← Hrd.out, Hst.out]; rfl, rfl⟩
      · have hz : ¬ (k : Int) < s.size := by omega
        have h9z : ¬ (k : Int) = 9 := by omega
        go_wp2
        all_goals
          go_ret3
          exact ⟨by rw [← Hrd.out, Hst.out, if_neg h9]; rfl, rfl⟩
end CR
end Go.Proofs.Ytdkfoakmjeealaa
