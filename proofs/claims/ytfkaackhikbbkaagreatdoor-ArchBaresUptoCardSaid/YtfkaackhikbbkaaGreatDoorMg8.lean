/- Texts of this seat, put one behind the other: what its statements share (part 8). -/
import Derived.Test.YtfkaackhikbbkaaGreatDoorMg1
import Derived.Test.YtfkaackhikbbkaaGreatDoorChecked
import Derived.Test.YtfkaackhikbbkaaGreatDoorFoot
import Derived.WalkKit
import Derived.WalkMore
import Derived.IntWalk
import Derived.Below
import Derived.Lib.Hide
import Derived.OwnWalk
import Derived.Laws.BitsAllLaws
import Derived.Lib.IndexBytes
section
/- Layer 3: how a reader lies in memory; the contracts of the readers' inner functions (left, fail, take, stopped, oneWay, number, counted). -/
namespace Go.Proofs.YtfkaackhikbbkaaGreatDoor
open Go.RowKit Go.Lib
namespace CR
open CP

/-- A reader in block bk: the bytes that are left, and its fault. -/
structure RdAt (bk : Nat) (s : ByteArray) (f : Int) (w : World) : Prop where
  c0 : w.cell? ⟨bk, 0, none⟩ = some (.string s)
  c1 : w.cell? ⟨bk, 1, none⟩ = some (.int .i64 f)
  f0 : w.frozen? ⟨bk, 0, none⟩ = false
  f1 : w.frozen? ⟨bk, 1, none⟩ = false
  lt : bk < w.heap.size
theorem RdAt.out {bk : Nat} {S : Nat → Prop} {s : ByteArray} {f : Int} {w w' : World} (h : RdAt bk s f w) (hb : FP.Out S w w') (hS : ¬ S bk) : RdAt bk s f w' :=
  ⟨by rw [hb.cell (p := ⟨bk, 0, none⟩) h.lt hS]; exact h.c0, by rw [hb.cell (p := ⟨bk, 1, none⟩) h.lt hS]; exact h.c1, by rw [hb.frozen (p := ⟨bk, 0, none⟩) h.lt hS]; exact h.f0, by rw [hb.frozen (p := ⟨bk, 1, none⟩) h.lt hS]; exact h.f1, Nat.lt_of_lt_of_le h.lt hb.size⟩
theorem RdAt.set0 {bk : Nat} {s : ByteArray} {f : Int} {w : World} (h : RdAt bk s f w) (t : ByteArray) : RdAt bk t f (w.setCell ⟨bk, 0, none⟩ (.string t)) :=
  ⟨World.cell?_setCell_same _ _ _ h.c0, by rw [World.cell?_setCell_other _ _ _ _ (by simp)]; exact h.c1, by rw [World.frozen?_setCell]; exact h.f0, by rw [World.frozen?_setCell]; exact h.f1, by rw [World.size_setCell]; exact h.lt⟩
theorem RdAt.set1 {bk : Nat} {s : ByteArray} {f : Int} {w : World} (h : RdAt bk s f w) (e : Int) : RdAt bk s e (w.setCell ⟨bk, 1, none⟩ (.int .i64 e)) :=
  ⟨by rw [World.cell?_setCell_other _ _ _ _ (by simp)]; exact h.c0, World.cell?_setCell_same _ _ _ h.c1, by rw [World.frozen?_setCell]; exact h.f0, by rw [World.frozen?_setCell]; exact h.f1, by rw [World.size_setCell]; exact h.lt⟩
theorem RdAt.keep {bk B : Nat} {s : ByteArray} {f : Int} {w w' : World} (h : RdAt bk s f w) (hb : Below B w w') (hB : bk < B) : RdAt bk s f w' :=
  ⟨by rw [hb.cell (p := ⟨bk, 0, none⟩) hB]; exact h.c0, by rw [hb.cell (p := ⟨bk, 1, none⟩) hB]; exact h.c1, by rw [hb.frozen (p := ⟨bk, 0, none⟩) hB]; exact h.f0, by rw [hb.frozen (p := ⟨bk, 1, none⟩) hB]; exact h.f1, Nat.lt_of_lt_of_le h.lt hb.size⟩
abbrev ptr (bk : Nat) : Value := .pointer (some ⟨bk, 0, none⟩)
theorem left_any (bk : Nat) (s : ByteArray) (f : Int) (w : World) (h : RdAt bk s f w) (hs : s.size ≤ maxLen) :
    Calls Tryz.prog 107 #[ptr bk] w fun e w' => e = .returned (.int .i64 s.size) ∧ w = w' := by
  obtain ⟨c0, c1, f0, f1, lt⟩ := h
  have _ := hs
  go_enter Tryz.func107, Tryz.ntmps107
  go_wp2
  go_ret
  exact ⟨rfl, rfl⟩
theorem fail_any (bk : Nat) (s : ByteArray) (f : Int) (e : Int) (w : World) (h : RdAt bk s f w) :
    Calls Tryz.prog 104 #[ptr bk, .int .i64 e] w fun r w' => r = .returned (.tuple #[]) ∧ RdAt bk s e w' ∧ FP.Out (· = bk) w w' := by
  obtain ⟨c0, c1, f0, f1, lt⟩ := h
  have Hlt := Lib.hid lt
  have Hc0 := Lib.hid c0
  have Hf0 := Lib.hid f0
  have Hf1 := Lib.hid f1
  go_enter Tryz.func104, Tryz.ntmps104
  go_wp2
  go_end0
  exact ⟨rfl, (RdAt.mk Hc0.out c1 Hf0.out Hf1.out Hlt.out).set1 _, (FP.Out.refl (· = bk) _).setCell (p := ⟨bk, 1, none⟩) (fun _ => rfl) _⟩
theorem take_any (bk n : Nat) (s : ByteArray) (f : Int) (w : World) (h : RdAt bk s f w) (hs : s.size ≤ maxLen) (hn : n ≤ s.size) :
    Calls Tryz.prog 105 #[ptr bk, .int .i64 n] w fun r w' => r = .returned (.string (s.extract 0 n)) ∧ RdAt bk (s.extract n s.size) f w' ∧ FP.Out (· = bk) w w' := by
  obtain ⟨c0, c1, f0, f1, lt⟩ := h
  have _ := hs
  have hn2 : (n : Int) ≤ s.size := by omega
  go_enter Tryz.func105, Tryz.ntmps105
  go_wp2
  go_ret
  exact ⟨rfl, (RdAt.mk c0 c1 f0 f1 lt).set0 _, (FP.Out.refl (· = bk) _).setCell (p := ⟨bk, 0, none⟩) (fun _ => rfl) _⟩
theorem stopped_no (bk : Nat) (s : ByteArray) (w : World) (h : RdAt bk s 0 w) :
    Calls Tryz.prog 102 #[ptr bk] w fun r w' => r = .returned (.bool false) ∧ w = w' := by
  obtain ⟨c0, c1, f0, f1, lt⟩ := h
  go_enter Tryz.func102, Tryz.ntmps102
  go_wp2
  go_ret
  exact ⟨rfl, rfl⟩
theorem stopped_yes (bk : Nat) (s : ByteArray) (f : Int) (w : World) (h : RdAt bk s f w) (hf : f ≠ 0) :
    Calls Tryz.prog 102 #[ptr bk] w fun r w' => r = .returned (.bool true) ∧ w = w' := by
  obtain ⟨c0, c1, f0, f1, lt⟩ := h
  have hfb : (f != 0) = true := by simpa using hf
  go_enter Tryz.func102, Tryz.ntmps102
  go_wp2
  go_ret
  exact ⟨rfl, rfl⟩
theorem one_way (x wd b : Int) (w : World) :
    Calls Tryz.prog 135 #[.int .i64 x, .int .i64 wd, .int .i64 b] w fun r w' =>
      r = .returned (if b = 0 ∧ 1 < wd then .tuple #[.int .i64 0, .int .i64 0, .int .i64 31] else .tuple #[.int .i64 x, .int .i64 wd, .int .i64 0]) ∧ w = w' := by
  by_cases h0 : b = 0
  · subst h0
    by_cases h1 : 1 < wd
    · rw [if_pos ⟨rfl, h1⟩]
      go_enter Tryz.func135, Tryz.ntmps135
      go_wp2
      go_ret3
      exact ⟨rfl, rfl⟩
    · rw [if_neg (fun h => h1 h.2)]
      go_enter Tryz.func135, Tryz.ntmps135
      go_wp2
      go_ret3
      exact ⟨rfl, rfl⟩
  · rw [if_neg (fun h => h0 h.1)]
    have hb : (b == 0) = false := by simpa using h0
    go_enter Tryz.func135, Tryz.ntmps135
    go_wp2
    go_ret3
    exact ⟨rfl, rfl⟩
theorem ofInt_i64 (a : Nat) (ha : a < 2 ^ 63) : (BitVec.ofInt 64 (a : Int)).toNat = a := by
  rw [BitVec.ofInt_natCast, BitVec.toNat_ofNat]; exact Nat.mod_eq_of_lt (by omega)
theorem or_i64 (a b : Nat) (ha : a < 2 ^ 63) (hb : b < 2 ^ 63) : bits .or .i64 (a : Int) (b : Int) = ((a ||| b : Nat) : Int) := by
  have hx : a ||| b < 2 ^ 63 := Nat.or_lt_two_pow ha hb
  show IntKind.i64.wrap ((BitVec.ofInt 64 (a : Int) ||| BitVec.ofInt 64 (b : Int)).toNat : Int) = _
  rw [BitVec.toNat_or, ofInt_i64 a ha, ofInt_i64 b hb, IntKind.wrap_i64]
  omega
theorem wrap64_nat {n : Nat} (h : n < 2 ^ 63) : wrap64 (n : Int) = n := by unfold wrap64; omega
theorem or_step {v k b : Nat} (hk : k < 9) (hv : v < 128 ^ k) (hb : b < 256) : bits .or .i64 (v : Int) (wrap64 ((wrap64 (b : Int)).tmod 128 * 2 ^ (7 * k))) = ((v + b % 128 * 128 ^ k : Nat) : Int) := by
  have ep : (128 : Nat) ^ k = 2 ^ (7 * k) := by rw [Nat.pow_mul]
  have h0 : b % 128 < 128 := by omega
  have e0 : (wrap64 (b : Int)).tmod 128 = ((b % 128 : Nat) : Int) := by
    rw [wrap64_nat (by omega), Int.tmod_eq_emod_of_nonneg (by omega)]
    omega
  rw [e0]
  generalize b % 128 = c at h0
  rw [ep] at hv ⊢
  have h63 : c * 2 ^ (7 * k) < 2 ^ 63 := by
    have h1 : c * 2 ^ (7 * k) < 2 ^ 7 * 2 ^ (7 * k) := Nat.mul_lt_mul_of_pos_right h0 (Nat.pow_pos (by decide))
    rw [← Nat.pow_add] at h1
    exact Nat.lt_of_lt_of_le h1 (Nat.pow_le_pow_right (by decide) (by omega))
  have hv63 : v < 2 ^ 63 := Nat.lt_of_lt_of_le hv (Nat.pow_le_pow_right (by decide) (by omega))
  have ec : (c : Int) * 2 ^ (7 * k) = ((c * 2 ^ (7 * k) : Nat) : Int) := by
    rw [Int.natCast_mul, Int.natCast_pow]
    rfl
  rw [ec, wrap64_nat h63, or_i64 v _ hv63 h63]
  congr 1
  rw [Nat.or_comm, Nat.mul_comm, ← Nat.two_pow_add_eq_or_of_lt hv, Nat.add_comm]
theorem or_step2 {v k b : Nat} (hk : k < 9) (hv : v < 128 ^ k) (hb : b < 256) : bits .or .i64 (v : Int) (wrap64 ((b : Int) % 128 * 2 ^ (7 * k))) = ((v + b % 128 * 128 ^ k : Nat) : Int) := by
  have e := or_step hk hv hb
  rw [wrap64_nat (by omega), Int.tmod_eq_emod_of_nonneg (by omega)] at e
  exact e
theorem rd_at {l : List UInt8} {k v : Nat} {b : UInt8} (hb : l[k]? = some b) (hk : k < 9) : rd k v (l.drop k) = if b.toNat < 128 then (if b = 0 ∧ 0 < k then (0, 0, 31) else (v + b.toNat * 128 ^ k, k + 1, 0)) else rd (k + 1) (v + b.toNat % 128 * 128 ^ k) (l.drop (k + 1)) := by
  obtain ⟨hlt, rfl⟩ := List.getElem?_eq_some_iff.1 hb
  rw [List.drop_eq_getElem_cons hlt]
  rw [rd, if_neg (by omega)]
theorem rd_stop {l : List UInt8} {k v : Nat} (hk9 : k ≤ 9) (hk : k ≤ l.length) (h : ¬ (k < l.length ∧ k < 9)) : rd k v (l.drop k) = (0, 0, if k = 9 then 31 else 30) := by
  by_cases h9 : k = 9
  · rw [if_pos h9]
    cases hd : l.drop k with
    | nil => rw [rd, if_pos h9]
    | cons b r => rw [rd, if_pos h9]
  · have e : k = l.length := by omega
    rw [e, List.drop_length, rd]
theorem step_lt {v k b : Nat} (hv : v < 128 ^ k) : v + b % 128 * 128 ^ k < 128 ^ (k + 1) := by
  have h0 : b % 128 + 1 ≤ 128 := by omega
  have := Nat.mul_le_mul_right (128 ^ k) h0
  rw [Nat.add_mul] at this
  rw [Nat.pow_succ]
  omega
set_option maxRecDepth 100000 in
set_option maxHeartbeats 1600000 in
theorem number_any (bk : Nat) (s : ByteArray) (f : Int) (w : World) (h : RdAt bk s f w) (hs : s.size ≤ maxLen) :
    Calls Tryz.prog 106 #[ptr bk] w fun r w' => r = .returned (.tuple #[.int .i64 (rd 0 0 s.data.toList).1, .int .i64 (rd 0 0 s.data.toList).2.1, .int .i64 (rd 0 0 s.data.toList).2.2]) ∧ w = w' := by
  have cL := left_any bk s f w h hs
  have cW := one_way
  obtain ⟨c0, c1, f0, f1, lt⟩ := h
  unfold maxLen at hs
  obtain ⟨R, hR⟩ : ∃ R, rd 0 0 s.data.toList = R := ⟨_, rfl⟩
  rw [hR]
  have HR := Lib.hid hR
  have HS := Lib.hid (Lib.size_eq s)
  clear hR
  go_enter Tryz.func106, Tryz.ntmps106
  go_wp2
  go_loop [2, 3] (fun s2 s3 => ∃ k v : Nat, k ≤ 9 ∧ k ≤ s.size ∧ s3 = .int .i64 k ∧ s2 = .int .i64 v ∧ v < 128 ^ k ∧ rd k v (s.data.toList.drop k) = R) (fun _ s3 => 9 - (Go.RowKit.intOf s3).toNat)
  case atStart => exact ⟨0, 0, by omega, by omega, rfl, rfl, by decide, HR.out⟩
  case round =>
    obtain ⟨k, v, hk9, hks, rfl, rfl, hv, hrd⟩ := hrel
    have Hv := Lib.hid hv
    have Hrd := Lib.hid hrd
    clear hv hrd
    by_cases hlt : k < s.size ∧ k < 9
    · obtain ⟨h1, h2⟩ := hlt
      have hz1 : (k : Int) < s.size := by omega
      have hz2 : (k : Int) < 9 := by omega
      have Hget := Lib.hid (rd_at (v := v) (Lib.data_getElem? s k h1) h2)
      have Hor := Lib.hid (or_step h2 Hv.out (s[k]).toNat_lt)
      have Hor2 := Lib.hid (or_step2 h2 Hv.out (s[k]).toNat_lt)
      by_cases hl : (s[k]).toNat < 128
      · have hlz : ((s[k].toNat : Nat) : Int) < 128 := by omega
        have Hl := Lib.hid hl
        clear hl
        go_wp2_with fail
        refine cL.mono ?_
        rintro e w1 ⟨rfl, rfl⟩
        by_cases hm : (s.size : Int) ≤ 9
        all_goals
          go_wp2_with fail
          refine (cW _ _ _ _).mono ?_
          rintro e w2 ⟨rfl, rfl⟩
          by_cases hz : s[k] = 0 ∧ 0 < k
          · rw [if_pos (by rw [hz.1]; exact ⟨rfl, by omega⟩)]
            have HF := Lib.hid (show R = (0, 0, 31) by rw [← Hrd.out, Hget.out, if_pos Hl.out, if_pos hz])
            go_wp2
            go_ret3
            exact ⟨by rw [HF.out]; rfl, rfl⟩
          · rw [if_neg (by rintro ⟨h0, h3⟩; exact hz ⟨UInt8.toNat_inj.1 (by show _ = 0; omega), by omega⟩)]
            have HF := Lib.hid (show R = (v + s[k].toNat * 128 ^ k, k + 1, 0) by rw [← Hrd.out, Hget.out, if_pos Hl.out, if_neg hz])
            go_wp2
            go_ret3
            exact ⟨by rw [HF.out]; first | rw [Hor.out] | rw [Hor2.out]; rw [Nat.mod_eq_of_lt Hl.out]; go_num, rfl⟩
      · have hlz : ¬ ((s[k].toNat : Nat) : Int) < 128 := by omega
        have hu : ((s[k].toNat : Nat) : Int) < 256 := by have := (s[k]).toNat_lt; omega
        have Hl := Lib.hid hl
        clear hl
        go_wp2_with fail
        refine cL.mono ?_
        rintro e w1 ⟨rfl, rfl⟩
        by_cases hm : (s.size : Int) ≤ 9
        all_goals
          go_wp2_with fail
          go_round
          case rel => exact ⟨k + 1, v + s[k].toNat % 128 * 128 ^ k, by omega, by omega, by go_num, by first | rw [Hor.out] | rw [Hor2.out], step_lt Hv.out, by rw [← Hrd.out, Hget.out, if_neg Hl.out]⟩
          case measure => simp [Go.RowKit.intOf]; omega
    · have Hst := Lib.hid (rd_stop (v := v) hk9 (by rw [← HS.out]; exact hks) (by rw [← HS.out]; exact hlt))
      go_wp2_with fail
      refine cL.mono ?_
      rintro e w1 ⟨rfl, rfl⟩
      by_cases h9 : k = 9
      · subst h9
        go_wp2
        all_goals
          go_ret3
          exact ⟨by rw [← Hrd.out, Hst.out]; rfl, rfl⟩
      · have hz : ¬ (k : Int) < s.size := by omega
        have h9z : ¬ (k : Int) = 9 := by omega
        go_wp2
        all_goals
          go_ret3
          exact ⟨by rw [← Hrd.out, Hst.out, if_neg h9]; rfl, rfl⟩
end CR
end Go.Proofs.YtfkaackhikbbkaaGreatDoor
end

section
/- Layer 3: the contracts of counted and of the reader's calls. -/
namespace Go.Proofs.YtfkaackhikbbkaaGreatDoor
open Go.RowKit Go.Lib
namespace CR
open CP

def Tri (a : Nat × Nat × Nat) (w : World) (r : Ending) (w' : World) : Prop := r = .returned (.tuple #[.int .i64 a.1, .int .i64 a.2.1, .int .i64 a.2.2]) ∧ w = w'
theorem cnt_err {l : List UInt8} {x wd e : Nat} {most least : Int} (h : rd 0 0 l = (x, wd, e)) (he : e ≠ 0) : cnt l most least = (0, 0, e) := by unfold cnt; rw [h, if_pos he]
theorem cnt_more {l : List UInt8} {x wd : Nat} {most least : Int} (h : rd 0 0 l = (x, wd, 0)) (hm : most < x) : cnt l most least = (0, 0, 32) := by unfold cnt; rw [h, if_neg (by simp), if_pos hm]
theorem cnt_short {l : List UInt8} {x wd : Nat} {most least : Int} (h : rd 0 0 l = (x, wd, 0)) (hm : ¬ most < x) (hq : ((l.length : Int) - wd) / max least 1 < x) : cnt l most least = (0, 0, 30) := by unfold cnt; rw [h, if_neg (by simp), if_neg hm, if_pos hq]
theorem cnt_ok {l : List UInt8} {x wd : Nat} {most least : Int} (h : rd 0 0 l = (x, wd, 0)) (hm : ¬ most < x) (hq : ¬ ((l.length : Int) - wd) / max least 1 < x) : cnt l most least = (x, wd, 0) := by unfold cnt; rw [h, if_neg (by simp), if_neg hm, if_neg hq]
theorem rd_fits {l : List UInt8} {x wd e : Nat} (h : rd 0 0 l = (x, wd, e)) : wd ≤ l.length ∧ x < 2 ^ 63 ∧ e ≤ 31 := by
  rcases rd_err l 0 0 with h0 | h0 | h0
  · rw [h] at h0
    simp only at h0
    subst h0
    obtain ⟨_, _, h1, h2⟩ := rd_one h
    exact ⟨h1, by have e : (128 : Nat) ^ 9 = 2 ^ 63 := by decide
                  omega, by omega⟩
  · rw [h] at h0
    simp only [Prod.mk.injEq] at h0
    omega
  · rw [h] at h0
    simp only [Prod.mk.injEq] at h0
    omega
set_option maxRecDepth 100000 in
set_option maxHeartbeats 1600000 in
theorem counted_any (bk : Nat) (s : ByteArray) (f most least : Int) (w : World) (h : RdAt bk s f w) (hs : s.size ≤ maxLen) :
    Calls Tryz.prog 103 #[ptr bk, .int .i64 most, .int .i64 least] w (Tri (cnt s.data.toList most least) w) := by
  have cN := number_any bk s f w h hs
  have cL := left_any bk s f w h hs
  obtain ⟨x, wd, er, hrd⟩ : ∃ x wd er, rd 0 0 s.data.toList = (x, wd, er) := ⟨_, _, _, rfl⟩
  obtain ⟨hw, hx, he⟩ := rd_fits hrd
  rw [← Lib.size_eq] at hw
  have HS := Lib.hid (Lib.size_eq s)
  rw [hrd] at cN
  have Hrd := Lib.hid hrd
  clear hrd h
  unfold maxLen at hs
  by_cases h0 : er = 0
  · subst h0
    by_cases hm : most < (x : Int)
    · have HF := Lib.hid (cnt_more (least := least) Hrd.out hm)
      go_enter Tryz.func103, Tryz.ntmps103
      go_wp2_with fail
      refine cN.mono ?_
      rintro e w1 ⟨rfl, rfl⟩
      go_wp2_with fail
      go_ret3
      exact ⟨by rw [HF.out]; rfl, rfl⟩
    · go_enter Tryz.func103, Tryz.ntmps103
      go_wp2_with fail
      refine cN.mono ?_
      rintro e w1 ⟨rfl, rfl⟩
      go_wp2_with fail
      refine cL.mono ?_
      rintro e w1 ⟨rfl, rfl⟩
      go_wp2_with fail
      all_goals
        go_ret3
        refine ⟨?_, rfl⟩
        have HX := HS.out
        have e0 : max least 1 = (if least < 1 then 1 else least) := by split <;> omega
        first
          | (have hq : ((s.data.toList.length : Int) - wd) / max least 1 < x := by
               first
                 | (rw [e0, ← HX]; omega)
                 | (rw [← HX]; omega)
             rw [cnt_short Hrd.out (by omega) hq]
             rfl)
          | (have hq : ¬ ((s.data.toList.length : Int) - wd) / max least 1 < x := by
               first
                 | (rw [e0, ← HX]; omega)
                 | (rw [← HX]; omega)
             rw [cnt_ok Hrd.out (by omega) hq]
             rfl)
  · have HF := Lib.hid (cnt_err (most := most) (least := least) Hrd.out h0)
    have hz : ¬ (er : Int) = 0 := by omega
    go_enter Tryz.func103, Tryz.ntmps103
    go_wp2_with fail
    refine cN.mono ?_
    rintro e w1 ⟨rfl, rfl⟩
    go_wp2_with fail
    go_ret3
    exact ⟨by rw [HF.out]; rfl, rfl⟩

/- New, Left, End -/
theorem new_any (s : ByteArray) (w : World) :
    Calls Tryz.prog 74 #[.string s] w fun r w' => r = .returned (ptr w.heap.size) ∧ RdAt w.heap.size s 0 w' ∧ Below w.heap.size w w' := by
  go_enter Tryz.func74, Tryz.ntmps74
  go_wp2
  go_ret
  refine ⟨rfl, ⟨World.cell?_alloc_at _ _ _ _ rfl, World.cell?_alloc_at _ _ _ _ rfl, World.frozen?_alloc_at _ _ _ _ rfl, World.frozen?_alloc_at _ _ _ _ rfl, by simp⟩, (Below.refl _ _).alloc (Nat.le_refl _) _⟩
theorem end_any (bk : Nat) (s : ByteArray) (f : Int) (w : World) (h : RdAt bk s f w) (hs : s.size ≤ maxLen) :
    Calls Tryz.prog 78 #[ptr bk] w fun e w' => e = .returned (.int .i64 (if f ≠ 0 then f else if s.data.toList = [] then 0 else 32)) ∧ w = w' := by
  have cL := left_any bk s f w h hs
  have HS := Lib.hid (Lib.size_eq s)
  obtain ⟨c0, c1, f0, f1, lt⟩ := h
  unfold maxLen at hs
  obtain ⟨E, hE⟩ : ∃ E, (if f ≠ 0 then f else if s.data.toList = [] then 0 else 32) = E := ⟨_, rfl⟩
  rw [hE]
  have HE := Lib.hid hE
  clear hE
  by_cases hf : f = 0
  · subst hf
    by_cases h0 : s.size = 0
    · have hz : ¬ (0 : Int) < s.size := by omega
      have HF := Lib.hid (show s.data.toList = [] from List.eq_nil_of_length_eq_zero (by rw [← HS.out]; exact h0))
      clear h0
      go_enter Tryz.func78, Tryz.ntmps78
      go_wp2_with fail
      refine cL.mono ?_
      rintro e w1 ⟨rfl, rfl⟩
      go_wp2
      go_ret
      exact ⟨by rw [← HE.out, if_neg (by simp), if_pos HF.out]; rfl, rfl⟩
    · have hz : (0 : Int) < s.size := by omega
      have HF := Lib.hid (show s.data.toList ≠ [] from fun e => h0 (by rw [HS.out, e]; rfl))
      clear h0
      go_enter Tryz.func78, Tryz.ntmps78
      go_wp2_with fail
      refine cL.mono ?_
      rintro e w1 ⟨rfl, rfl⟩
      go_wp2
      go_ret
      exact ⟨by rw [← HE.out, if_neg (by simp), if_neg HF.out]; rfl, rfl⟩
  · have hfb : (f != 0) = true := by simpa using hf
    go_enter Tryz.func78, Tryz.ntmps78
    go_wp2
    go_ret
    exact ⟨by rw [← HE.out, if_pos hf]; rfl, rfl⟩

/- Num, Count, Text, Flag -/
def RdPost (bk : Nat) (v : Value) (l : List UInt8) (f : Int) (w : World) (r : Ending) (w' : World) : Prop :=
  r = .returned v ∧ ∃ s : ByteArray, s.data.toList = l ∧ RdAt bk s f w' ∧ FP.Out (· = bk) w w'
theorem drop_data (s : ByteArray) (k : Nat) : (s.extract k s.size).data.toList = s.data.toList.drop k := by
  rw [Lib.extract_data, List.take_of_length_le]
  rw [List.length_drop, Lib.size_eq]
  omega
theorem take_data (s : ByteArray) (k : Nat) : (s.extract 0 k).data.toList = s.data.toList.take k := by
  rw [Lib.extract_data]
  simp
theorem num_stop (bk : Nat) (s : ByteArray) (f : Int) (w : World) (h : RdAt bk s f w) (hf : f ≠ 0) :
    Calls Tryz.prog 76 #[ptr bk] w (RdPost bk (.int .i64 0) s.data.toList f w) := by
  have cS := stopped_yes bk s f w h hf
  have H := Lib.hid h
  clear h
  go_enter Tryz.func76, Tryz.ntmps76
  go_wp2_with fail
  refine cS.mono ?_
  rintro e w1 ⟨rfl, rfl⟩
  go_wp2
  go_ret
  exact ⟨rfl, s, rfl, H.out, FP.Out.refl _ _⟩
theorem num_bad (bk : Nat) (s : ByteArray) (w : World) (e0 : Nat) (h : RdAt bk s 0 w) (hs : s.size ≤ maxLen) (hrd : rd 0 0 s.data.toList = (0, 0, e0)) (he : e0 ≠ 0) :
    Calls Tryz.prog 76 #[ptr bk] w (RdPost bk (.int .i64 0) s.data.toList e0 w) := by
  have cS := stopped_no bk s w h
  have cN := number_any bk s 0 w h hs
  have cF := fail_any bk s 0 e0 w h
  rw [hrd] at cN
  have hz : ((e0 : Int) != 0) = true := by simp; omega
  clear h hrd
  go_enter Tryz.func76, Tryz.ntmps76
  go_wp2_with fail
  refine cS.mono ?_
  rintro e w1 ⟨rfl, rfl⟩
  go_wp2_with fail
  refine cN.mono ?_
  rintro e w1 ⟨rfl, rfl⟩
  go_wp2_with fail
  refine cF.mono ?_
  rintro e w1 ⟨rfl, hr, hb⟩
  have HR := Lib.hid hr
  have HB := Lib.hid hb
  clear hr hb
  go_wp2
  go_ret
  exact ⟨rfl, s, rfl, HR.out, HB.out⟩
theorem num_ok (bk : Nat) (s : ByteArray) (w : World) (x wd : Nat) (h : RdAt bk s 0 w) (hs : s.size ≤ maxLen) (hrd : rd 0 0 s.data.toList = (x, wd, 0)) :
    Calls Tryz.prog 76 #[ptr bk] w (RdPost bk (.int .i64 x) (s.data.toList.drop wd) 0 w) := by
  have cS := stopped_no bk s w h
  have cN := number_any bk s 0 w h hs
  have cT := take_any bk wd s 0 w h hs (by rw [Lib.size_eq]; exact (rd_fits hrd).1)
  rw [hrd] at cN
  clear h hrd
  go_enter Tryz.func76, Tryz.ntmps76
  go_wp2_with fail
  refine cS.mono ?_
  rintro e w1 ⟨rfl, rfl⟩
  go_wp2_with fail
  refine cN.mono ?_
  rintro e w1 ⟨rfl, rfl⟩
  go_wp2_with fail
  refine cT.mono ?_
  rintro e w1 ⟨rfl, hr, hb⟩
  have HR := Lib.hid hr
  have HB := Lib.hid hb
  clear hr hb
  go_wp2
  go_ret
  exact ⟨rfl, _, drop_data s wd, HR.out, HB.out⟩
theorem count_stop (bk : Nat) (s : ByteArray) (f most least : Int) (w : World) (h : RdAt bk s f w) (hf : f ≠ 0) :
    Calls Tryz.prog 77 #[ptr bk, .int .i64 most, .int .i64 least] w (RdPost bk (.int .i64 0) s.data.toList f w) := by
  have cS := stopped_yes bk s f w h hf
  have H := Lib.hid h
  clear h
  go_enter Tryz.func77, Tryz.ntmps77
  go_wp2_with fail
  refine cS.mono ?_
  rintro e w1 ⟨rfl, rfl⟩
  go_wp2
  go_ret
  exact ⟨rfl, s, rfl, H.out, FP.Out.refl _ _⟩
theorem count_bad (bk : Nat) (s : ByteArray) (most least : Int) (w : World) (e0 : Nat) (h : RdAt bk s 0 w) (hs : s.size ≤ maxLen) (hrd : cnt s.data.toList most least = (0, 0, e0)) (he : e0 ≠ 0) :
    Calls Tryz.prog 77 #[ptr bk, .int .i64 most, .int .i64 least] w (RdPost bk (.int .i64 0) s.data.toList e0 w) := by
  have cS := stopped_no bk s w h
  have cN := counted_any bk s 0 most least w h hs
  have cF := fail_any bk s 0 e0 w h
  rw [hrd] at cN
  have hz : ((e0 : Int) != 0) = true := by simp; omega
  clear h hrd
  go_enter Tryz.func77, Tryz.ntmps77
  go_wp2_with fail
  refine cS.mono ?_
  rintro e w1 ⟨rfl, rfl⟩
  go_wp2_with fail
  refine cN.mono ?_
  rintro e w1 ⟨rfl, rfl⟩
  go_wp2_with fail
  refine cF.mono ?_
  rintro e w1 ⟨rfl, hr, hb⟩
  have HR := Lib.hid hr
  have HB := Lib.hid hb
  clear hr hb
  go_wp2
  go_ret
  exact ⟨rfl, s, rfl, HR.out, HB.out⟩
theorem cnt_is {l : List UInt8} {most least : Int} {x wd : Nat} (h : cnt l most least = (x, wd, 0)) : rd 0 0 l = (x, wd, 0) ∧ (x : Int) ≤ most ∧ (x : Int) ≤ ((l.length : Int) - wd) / max least 1 := by
  rcases cnt_cases l most least with ⟨h1, h2, h3, h4⟩ | ⟨e, h1, h2⟩
  · rw [h] at h1
    rw [← h1] at h3 h4
    exact ⟨h1.symm, h3, h4⟩
  · rw [h] at h1
    simp only [Prod.mk.injEq] at h1
    omega
theorem count_ok (bk : Nat) (s : ByteArray) (most least : Int) (w : World) (x wd : Nat) (h : RdAt bk s 0 w) (hs : s.size ≤ maxLen) (hrd : cnt s.data.toList most least = (x, wd, 0)) :
    Calls Tryz.prog 77 #[ptr bk, .int .i64 most, .int .i64 least] w (RdPost bk (.int .i64 x) (s.data.toList.drop wd) 0 w) := by
  have cS := stopped_no bk s w h
  have cN := counted_any bk s 0 most least w h hs
  have cT := take_any bk wd s 0 w h hs (by rw [Lib.size_eq]; exact (rd_fits (cnt_is hrd).1).1)
  rw [hrd] at cN
  clear h hrd
  go_enter Tryz.func77, Tryz.ntmps77
  go_wp2_with fail
  refine cS.mono ?_
  rintro e w1 ⟨rfl, rfl⟩
  go_wp2_with fail
  refine cN.mono ?_
  rintro e w1 ⟨rfl, rfl⟩
  go_wp2_with fail
  refine cT.mono ?_
  rintro e w1 ⟨rfl, hr, hb⟩
  have HR := Lib.hid hr
  have HB := Lib.hid hb
  clear hr hb
  go_wp2
  go_ret
  exact ⟨rfl, _, drop_data s wd, HR.out, HB.out⟩
def TxPost (bk : Nat) (t l : List UInt8) (f : Int) (w : World) (r : Ending) (w' : World) : Prop := ∃ u : ByteArray, u.data.toList = t ∧ RdPost bk (.string u) l f w r w'
theorem text_stop (bk : Nat) (s : ByteArray) (f most : Int) (w : World) (h : RdAt bk s f w) (hf : f ≠ 0) :
    Calls Tryz.prog 75 #[ptr bk, .int .i64 most] w (TxPost bk [] s.data.toList f w) := by
  have cS := stopped_yes bk s f w h hf
  have H := Lib.hid h
  clear h
  go_enter Tryz.func75, Tryz.ntmps75
  go_wp2_with fail
  refine cS.mono ?_
  rintro e w1 ⟨rfl, rfl⟩
  go_wp2
  go_ret
  exact ⟨_, rfl, rfl, s, rfl, H.out, FP.Out.refl _ _⟩
theorem text_bad (bk : Nat) (s : ByteArray) (most : Int) (w : World) (e0 : Nat) (h : RdAt bk s 0 w) (hs : s.size ≤ maxLen) (hrd : cnt s.data.toList most 1 = (0, 0, e0)) (he : e0 ≠ 0) :
    Calls Tryz.prog 75 #[ptr bk, .int .i64 most] w (TxPost bk [] s.data.toList e0 w) := by
  have cS := stopped_no bk s w h
  have cN := counted_any bk s 0 most 1 w h hs
  have cF := fail_any bk s 0 e0 w h
  rw [hrd] at cN
  have hz : ((e0 : Int) != 0) = true := by simp; omega
  clear h hrd
  go_enter Tryz.func75, Tryz.ntmps75
  go_wp2_with fail
  refine cS.mono ?_
  rintro e w1 ⟨rfl, rfl⟩
  go_wp2_with fail
  refine cN.mono ?_
  rintro e w1 ⟨rfl, rfl⟩
  go_wp2_with fail
  refine cF.mono ?_
  rintro e w1 ⟨rfl, hr, hb⟩
  have HR := Lib.hid hr
  have HB := Lib.hid hb
  clear hr hb
  go_wp2
  go_ret
  exact ⟨_, rfl, rfl, s, rfl, HR.out, HB.out⟩
theorem text_room {l : List UInt8} {most : Int} {x wd : Nat} (h : cnt l most 1 = (x, wd, 0)) : wd + x ≤ l.length := by
  obtain ⟨h1, _, h3⟩ := cnt_is h
  have hw := (rd_fits h1).1
  rw [show max (1 : Int) 1 = 1 from rfl, Int.ediv_one] at h3
  omega
theorem text_ok (bk : Nat) (s : ByteArray) (most : Int) (w : World) (x wd : Nat) (h : RdAt bk s 0 w) (hs : s.size ≤ maxLen) (hrd : cnt s.data.toList most 1 = (x, wd, 0)) :
    Calls Tryz.prog 75 #[ptr bk, .int .i64 most] w (TxPost bk ((s.data.toList.drop wd).take x) (s.data.toList.drop (wd + x)) 0 w) := by
  have hroom := text_room hrd
  rw [← Lib.size_eq] at hroom
  have cS := stopped_no bk s w h
  have cN := counted_any bk s 0 most 1 w h hs
  have cT := take_any bk wd s 0 w h hs (by omega)
  have hsz : (s.extract wd s.size).size = s.size - wd := by rw [ByteArray.size_extract]; omega
  have cT2 := fun W (h : RdAt bk (s.extract wd s.size) 0 W) => take_any bk x (s.extract wd s.size) 0 W h (by omega) (by omega)
  rw [hrd] at cN
  clear h hrd hsz
  go_enter Tryz.func75, Tryz.ntmps75
  go_wp2_with fail
  refine cS.mono ?_
  rintro e w1 ⟨rfl, rfl⟩
  go_wp2_with fail
  refine cN.mono ?_
  rintro e w1 ⟨rfl, rfl⟩
  go_wp2_with fail
  refine cT.mono ?_
  rintro e w1 ⟨rfl, hr, hb⟩
  have HR := Lib.hid hr
  have HB := Lib.hid hb
  clear hr hb
  go_wp2_with fail
  refine (cT2 _ HR.out).mono ?_
  rintro e w2 ⟨rfl, hr, hb⟩
  have HR2 := Lib.hid hr
  have HB2 := Lib.hid (HB.out.trans hb)
  clear hr hb
  go_wp2
  go_ret
  exact ⟨_, by rw [take_data, drop_data], rfl, _, by rw [drop_data, drop_data, List.drop_drop], HR2.out, HB2.out⟩
end CR
end Go.Proofs.YtfkaackhikbbkaaGreatDoor
end

section
/- Layer 9: the reader's calls Num, Count, Text, End in one shape each, over lists. -/
namespace Go.Proofs.YtfkaackhikbbkaaGreatDoor
open Go.RowKit Go.Lib
namespace CR
open CP AP

/-- A reader, by what is left and its fault. -/
def At (bk : Nat) (r : Rd) (w : World) : Prop := ∃ s : ByteArray, s.data.toList = r.1 ∧ RdAt bk s (r.2 : Nat) w
theorem At.out {bk : Nat} {S : Nat → Prop} {r : Rd} {w w' : World} (h : At bk r w) (hb : FP.Out S w w') (hS : ¬ S bk) : At bk r w' := by
  obtain ⟨s, h1, h2⟩ := h
  exact ⟨s, h1, h2.out hb hS⟩
theorem At.lt {bk : Nat} {r : Rd} {w : World} (h : At bk r w) : bk < w.heap.size := by
  obtain ⟨s, _, h2⟩ := h
  exact h2.lt
def NPost (bk : Nat) (a : Nat × Rd) (w : World) (r : Ending) (w' : World) : Prop := r = .returned (.int .i64 (a.1 : Nat)) ∧ At bk a.2 w' ∧ FP.Out (· = bk) w w'
def TPost (bk : Nat) (a : List UInt8 × Rd) (w : World) (r : Ending) (w' : World) : Prop := r = .returned (.string ⟨a.1.toArray⟩) ∧ At bk a.2 w' ∧ FP.Out (· = bk) w w'
theorem num_all (bk : Nat) (r : Rd) (w : World) (h : At bk r w) (hs : r.1.length ≤ maxLen) :
    Calls Tryz.prog 76 #[ptr bk] w (NPost bk (rNum r) w) := by
  obtain ⟨l, f⟩ := r
  obtain ⟨s, hl, h⟩ := h
  simp only [] at hl h hs
  subst hl
  have hs : s.size ≤ maxLen := by rw [Lib.size_eq]; exact hs
  by_cases hf : f = 0
  · subst hf
    by_cases he : (rd 0 0 s.data.toList).2.2 = 0
    · have hR : rNum (s.data.toList, 0) = ((rd 0 0 s.data.toList).1, s.data.toList.drop (rd 0 0 s.data.toList).2.1, 0) := by
        unfold rNum
        rw [if_neg (by simp), if_neg (by simp [he])]
      rw [hR]
      refine (num_ok bk s w (rd 0 0 s.data.toList).1 (rd 0 0 s.data.toList).2.1 h hs (Prod.ext rfl (Prod.ext rfl he))).mono ?_
      rintro r w' ⟨rfl, s', h1, h2, h3⟩
      exact ⟨rfl, ⟨s', h1, h2⟩, h3⟩
    · have hR : rNum (s.data.toList, 0) = (0, s.data.toList, (rd 0 0 s.data.toList).2.2) := by
        unfold rNum
        rw [if_neg (by simp), if_pos he]
      rw [hR]
      refine (num_bad bk s w (rd 0 0 s.data.toList).2.2 h hs ?_ he).mono ?_
      · rcases rd_err s.data.toList 0 0 with h0 | h0 | h0
        · exact absurd h0 he
        · rw [h0]
        · rw [h0]
      · rintro r w' ⟨rfl, s', h1, h2, h3⟩
        exact ⟨rfl, ⟨s', h1, h2⟩, h3⟩
  · have hR : rNum (s.data.toList, f) = (0, s.data.toList, f) := by
      unfold rNum
      rw [if_pos hf]
    rw [hR]
    refine (num_stop bk s f w h (by omega)).mono ?_
    rintro r w' ⟨rfl, s', h1, h2, h3⟩
    exact ⟨rfl, ⟨s', h1, h2⟩, h3⟩
theorem cnt_zero {l : List UInt8} {most least : Int} (h : (cnt l most least).2.2 ≠ 0) : cnt l most least = (0, 0, (cnt l most least).2.2) := by
  rcases cnt_cases l most least with ⟨h1, h2, _⟩ | ⟨e, h1, _⟩
  · rw [h1] at h
    exact absurd h2 h
  · rw [h1]
theorem count_all (bk : Nat) (most least : Int) (r : Rd) (w : World) (h : At bk r w) (hs : r.1.length ≤ maxLen) :
    Calls Tryz.prog 77 #[ptr bk, .int .i64 most, .int .i64 least] w (NPost bk (rCnt most least r) w) := by
  obtain ⟨l, f⟩ := r
  obtain ⟨s, hl, h⟩ := h
  simp only [] at hl h hs
  subst hl
  have hs : s.size ≤ maxLen := by rw [Lib.size_eq]; exact hs
  by_cases hf : f = 0
  · subst hf
    by_cases he : (cnt s.data.toList most least).2.2 = 0
    · have hR : rCnt most least (s.data.toList, 0) = ((cnt s.data.toList most least).1, s.data.toList.drop (cnt s.data.toList most least).2.1, 0) := by
        unfold rCnt
        rw [if_neg (by simp), if_neg (by simp [he])]
      rw [hR]
      refine (count_ok bk s most least w (cnt s.data.toList most least).1 (cnt s.data.toList most least).2.1 h hs (Prod.ext rfl (Prod.ext rfl he))).mono ?_
      rintro r w' ⟨rfl, s', h1, h2, h3⟩
      exact ⟨rfl, ⟨s', h1, h2⟩, h3⟩
    · have hR : rCnt most least (s.data.toList, 0) = (0, s.data.toList, (cnt s.data.toList most least).2.2) := by
        unfold rCnt
        rw [if_neg (by simp), if_pos he]
      rw [hR]
      refine (count_bad bk s most least w (cnt s.data.toList most least).2.2 h hs (cnt_zero he) he).mono ?_
      rintro r w' ⟨rfl, s', h1, h2, h3⟩
      exact ⟨rfl, ⟨s', h1, h2⟩, h3⟩
  · have hR : rCnt most least (s.data.toList, f) = (0, s.data.toList, f) := by
      unfold rCnt
      rw [if_pos hf]
    rw [hR]
    refine (count_stop bk s f most least w h (by omega)).mono ?_
    rintro r w' ⟨rfl, s', h1, h2, h3⟩
    exact ⟨rfl, ⟨s', h1, h2⟩, h3⟩
theorem bytes_of {u : ByteArray} {l : List UInt8} (h : u.data.toList = l) : u = ⟨l.toArray⟩ := by rw [← h]
theorem text_all (bk : Nat) (most : Int) (r : Rd) (w : World) (h : At bk r w) (hs : r.1.length ≤ maxLen) :
    Calls Tryz.prog 75 #[ptr bk, .int .i64 most] w (TPost bk (rTxt most r) w) := by
  obtain ⟨l, f⟩ := r
  obtain ⟨s, hl, h⟩ := h
  simp only [] at hl h hs
  subst hl
  have hs : s.size ≤ maxLen := by rw [Lib.size_eq]; exact hs
  by_cases hf : f = 0
  · subst hf
    by_cases he : (cnt s.data.toList most 1).2.2 = 0
    · have hR : rTxt most (s.data.toList, 0) = ((s.data.toList.drop (cnt s.data.toList most 1).2.1).take (cnt s.data.toList most 1).1, s.data.toList.drop ((cnt s.data.toList most 1).2.1 + (cnt s.data.toList most 1).1), 0) := by
        unfold rTxt
        rw [if_neg (by simp), if_neg (by simp [he])]
      rw [hR]
      refine (text_ok bk s most w (cnt s.data.toList most 1).1 (cnt s.data.toList most 1).2.1 h hs (Prod.ext rfl (Prod.ext rfl he))).mono ?_
      rintro r w' ⟨u, hu, rfl, s', h1, h2, h3⟩
      exact ⟨by rw [bytes_of hu], ⟨s', h1, h2⟩, h3⟩
    · have hR : rTxt most (s.data.toList, 0) = ([], s.data.toList, (cnt s.data.toList most 1).2.2) := by
        unfold rTxt
        rw [if_neg (by simp), if_pos he]
      rw [hR]
      refine (text_bad bk s most w (cnt s.data.toList most 1).2.2 h hs (cnt_zero he) he).mono ?_
      rintro r w' ⟨u, hu, rfl, s', h1, h2, h3⟩
      exact ⟨by rw [bytes_of hu], ⟨s', h1, h2⟩, h3⟩
  · have hR : rTxt most (s.data.toList, f) = ([], s.data.toList, f) := by
      unfold rTxt
      rw [if_pos hf]
    rw [hR]
    refine (text_stop bk s f most w h (by omega)).mono ?_
    rintro r w' ⟨u, hu, rfl, s', h1, h2, h3⟩
    exact ⟨by rw [bytes_of hu], ⟨s', h1, h2⟩, h3⟩
/-- What End tells. -/
def endR (r : Rd) : Nat := if r.2 ≠ 0 then r.2 else if r.1 = [] then 0 else 32
theorem end_all (bk : Nat) (r : Rd) (w : World) (h : At bk r w) (hs : r.1.length ≤ maxLen) :
    Calls Tryz.prog 78 #[ptr bk] w fun e w' => e = .returned (.int .i64 (endR r : Nat)) ∧ w = w' := by
  obtain ⟨l, f⟩ := r
  obtain ⟨s, hl, h⟩ := h
  simp only [] at hl h hs
  subst hl
  refine (end_any bk s f w h (by rw [Lib.size_eq]; exact hs)).mono ?_
  rintro e w' ⟨rfl, rfl⟩
  refine ⟨?_, rfl⟩
  unfold endR
  by_cases hf : f = 0
  · subst hf
    by_cases hl : s.data.toList = []
    · simp [hl]
    · simp [hl]
  · simp [hf]
theorem end_ok (r : Rd) : endR r = 0 ↔ r.2 = 0 ∧ r.1 = [] := by
  unfold endR
  by_cases hf : r.2 = 0
  · by_cases hl : r.1 = []
    · simp [hf, hl]
    · simp [hf, hl]
  · simp [hf]
/-- Less is left behind each call. -/
theorem num_left (r : Rd) : (rNum r).2.1.length ≤ r.1.length := by
  unfold rNum
  by_cases h1 : r.2 = 0
  · rw [if_neg (by simp [h1])]
    by_cases h2 : (rd 0 0 r.1).2.2 = 0
    · rw [if_neg (by simp [h2])]
      simp only [List.length_drop]
      omega
    · rw [if_pos h2]
      exact Nat.le_refl _
  · rw [if_pos h1]
    exact Nat.le_refl _
theorem cnt_left (most least : Int) (r : Rd) : (rCnt most least r).2.1.length ≤ r.1.length := by
  unfold rCnt
  by_cases h1 : r.2 = 0
  · rw [if_neg (by simp [h1])]
    by_cases h2 : (cnt r.1 most least).2.2 = 0
    · rw [if_neg (by simp [h2])]
      simp only [List.length_drop]
      omega
    · rw [if_pos h2]
      exact Nat.le_refl _
  · rw [if_pos h1]
    exact Nat.le_refl _
theorem txt_left (most : Int) (r : Rd) : (rTxt most r).2.1.length ≤ r.1.length := by
  unfold rTxt
  by_cases h1 : r.2 = 0
  · rw [if_neg (by simp [h1])]
    by_cases h2 : (cnt r.1 most 1).2.2 = 0
    · rw [if_neg (by simp [h2])]
      simp only [List.length_drop]
      omega
    · rw [if_pos h2]
      exact Nat.le_refl _
  · rw [if_pos h1]
    exact Nat.le_refl _
theorem node_left (r : Rd) : (rNode r).2.1.length ≤ r.1.length := by
  have a := txt_left 400 r
  have b := num_left (rTxt 400 r).2
  have c := num_left (rNum (rTxt 400 r).2).2
  have d := txt_left 64 (rNum (rNum (rTxt 400 r).2).2).2
  have e := num_left (rTxt 64 (rNum (rNum (rTxt 400 r).2).2).2).2
  have f := num_left (rNum (rTxt 64 (rNum (rNum (rTxt 400 r).2).2).2).2).2
  have g := num_left (rNum (rNum (rTxt 64 (rNum (rNum (rTxt 400 r).2).2).2).2).2).2
  unfold rNode
  simp only []
  omega
theorem nodes_left : ∀ (k : Nat) (r : Rd), (rNodes k r).2.2.1.length ≤ r.1.length
  | 0, r => Nat.le_refl _
  | k + 1, r => by
    have ih := nodes_left k r
    have := node_left (rNodes k r).2.2
    rw [rNodes]
    simp only []
    omega
theorem nodes_len : ∀ (k : Nat) (r : Rd), (rNodes k r).1.length = k ∧ (rNodes k r).2.1.length = k
  | 0, r => ⟨rfl, rfl⟩
  | k + 1, r => by
    obtain ⟨h1, h2⟩ := nodes_len k r
    rw [rNodes]
    simp only [List.length_append, List.length_singleton]
    omega
theorem cnt_most (most least : Int) (r : Rd) (h0 : 0 ≤ most) : ((rCnt most least r).1 : Int) ≤ most := by
  unfold rCnt
  by_cases h1 : r.2 = 0
  · rw [if_neg (by simp [h1])]
    by_cases h2 : (cnt r.1 most least).2.2 = 0
    · rw [if_neg (by simp [h2])]
      rcases cnt_cases r.1 most least with ⟨e, _, h3, _⟩ | ⟨e, h3, h4⟩
      · simp only [e]; exact h3
      · rw [h3] at h2
        simp only [] at h2
        omega
    · rw [if_pos h2]
      exact h0
  · rw [if_pos h1]
    exact h0
end CR
end Go.Proofs.YtfkaackhikbbkaaGreatDoor
end
