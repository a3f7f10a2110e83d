/- Layer 1: the contracts of rank, cmp.Compare at int and name.Order: what they answer for every argument, in every world. -/
import Derived.Test.YtechekdiadpmoaaGreatDoorQBase
import Derived.Test.YtechekdiadpmoaaGreatDoorChecked
import Derived.WalkKit
import Derived.WalkMore
import Derived.IntWalk
import Derived.Below
import Derived.Deep.QuietTactic
import Derived.BigQuiet
import Derived.Lib.Hide
set_option linter.all false
set_option maxRecDepth 100000
set_option maxHeartbeats 25600000
namespace Go.Proofs.YtechekdiadpmoaaGreatDoor
open Go.RowKit Go.Lib
namespace NO

theorem u8_lt (c : UInt8) : (c.toNat : Int) < 256 := by have := c.toNat_lt; omega
theorem rank_any (c : UInt8) (w : World) :
    Calls Tryz.prog 56 #[.int .u8 c.toNat] w fun e w' => e = .returned (.int .i64 (NP.rk c)) ∧ w = w' := by
  have h256 := u8_lt c
  have h0 : (0 : Int) ≤ (c.toNat : Int) := by omega
  by_cases h : c = 47
  · subst h
    go_enter Tryz.func56, Tryz.ntmps56
    go_wp2
    go_ret
    exact ⟨rfl, rfl⟩
  · have hb : ((c.toNat : Int) == 47) = false := by
      apply beq_eq_false_iff_ne.2
      intro e
      apply h
      apply UInt8.toNat_inj.1
      show c.toNat = 47
      omega
    have e : NP.rk c = c.toNat + 1 := by unfold NP.rk; rw [if_neg h]
    have E := Lib.hid e
    clear e
    clear h
    go_enter Tryz.func56, Tryz.ntmps56
    go_wp2
    go_ret
    exact ⟨by rw [E.out]; rfl, rfl⟩

theorem cmp_any (x y : Int) (w : World) :
    Calls Tryz.prog 55 #[.int .i64 x, .int .i64 y] w fun e w' => e = .returned (.int .i64 (if x < y then -1 else if y < x then 1 else 0)) ∧ w = w' := by
  by_cases h1 : x < y
  · rw [if_pos h1]
    go_enter Tryz.func55, Tryz.ntmps55
    go_wp2
    go_ret
    exact ⟨rfl, rfl⟩
  · rw [if_neg h1]
    by_cases h2 : y < x
    · rw [if_pos h2]
      go_enter Tryz.func55, Tryz.ntmps55
      go_wp2
      go_ret
      exact ⟨rfl, rfl⟩
    · rw [if_neg h2]
      go_enter Tryz.func55, Tryz.ntmps55
      go_wp2
      go_ret
      exact ⟨rfl, rfl⟩
theorem cmp_nat (x y : Nat) (w : World) :
    Calls Tryz.prog 55 #[.int .i64 x, .int .i64 y] w fun e w' => e = .returned (.int .i64 (NP.cmpN x y)) ∧ w = w' :=
  (cmp_any x y w).mono fun e w' ⟨he, hw⟩ => ⟨by
    rw [he]
    unfold NP.cmpN
    by_cases h1 : x < y
    · rw [if_pos h1, if_pos (by omega)]
    · by_cases h2 : y < x
      · rw [if_neg h1, if_pos h2, if_neg (by omega), if_pos (by omega)]
      · rw [if_neg h1, if_neg h2, if_neg (by omega), if_neg (by omega)], hw⟩

theorem get_data (s : ByteArray) (i : Nat) (h : i < s.size) : s.data.toList[i]? = some s[i] := Lib.data_getElem? s i h
theorem take_succ_eq {a b : List UInt8} {i : Nat} {x : UInt8} (h : a.take i = b.take i) (ha : a[i]? = some x) (hb : b[i]? = some x) : a.take (i + 1) = b.take (i + 1) := by
  rw [List.take_add_one, List.take_add_one, h, ha, hb]
def Drawn (w w' : World) : Prop := ∃ n, w' = w.drewN n
theorem Drawn.refl (w : World) : Drawn w w := ⟨0, rfl⟩
theorem Drawn.drewN {w w' : World} (h : Drawn w w') (n : Nat) : Drawn w (w'.drewN n) := by obtain ⟨k, rfl⟩ := h; exact ⟨k + n, by simp⟩
theorem Drawn.trans {w w' w2 : World} (h : Drawn w w') (k : Drawn w' w2) : Drawn w w2 := by obtain ⟨n, rfl⟩ := k; exact h.drewN n
set_option maxHeartbeats 1600000 in
theorem order_any (a b : ByteArray) (w : World) (ha : a.size ≤ maxLen) (hb : b.size ≤ maxLen) :
    Calls Tryz.prog 32 #[.string a, .string b] w fun e w' => e = .returned (.int .i64 (NP.ordL a.data.toList b.data.toList)) ∧ Drawn w w' := by
  unfold maxLen at ha hb
  have Hsa := Lib.hid (Lib.size_eq a)
  have Hsb := Lib.hid (Lib.size_eq b)
  by_cases hab : a.size ≤ b.size
  all_goals
    obtain ⟨m, hm⟩ : ∃ m, m = min a.size b.size := ⟨_, rfl⟩
    have hma : m ≤ a.size := by omega
    have hmb : m ≤ b.size := by omega
    have hmm : a.size ≤ m ∨ b.size ≤ m := by omega
    have Hm := Lib.hid hm
    clear hm
    go_enter Tryz.func32, Tryz.ntmps32
    go_wp2
    go_loopw [11] (fun i wr => ∃ k : Nat, k ≤ m ∧ i = .int .i64 k ∧ a.data.toList.take k = b.data.toList.take k ∧ Drawn w wr) (fun i _ => m - (Go.RowKit.intOf i).toNat)
    case atStart => exact ⟨0, Nat.zero_le _, rfl, rfl, Drawn.refl _⟩
    case round =>
      obtain ⟨k, hk, rfl, ht, hdr⟩ := hrel
      have Ht := Lib.hid ht
      have Hdr := Lib.hid hdr
      clear ht hdr
      by_cases hlt : k < m
      · have hz1 : (k : Int) < a.size := by omega
        have hz2 : (k : Int) < b.size := by omega
        have hka : k < a.size := by omega
        have hkb : k < b.size := by omega
        by_cases hxy : a[k] = b[k]
        · have hd : (((a[k].toNat : Nat) : Int) != ((b[k].toNat : Nat) : Int)) = false := by rw [hxy]; simp
          have Hxy := Lib.hid hxy
          clear hxy
          go_wp2
          go_quiet (fail)
          go_wp2
          go_roundw
          case rel =>
            exact ⟨k + 1, by omega, by go_num, take_succ_eq Ht.out (get_data a k hka) (by rw [Hxy.out]; exact get_data b k hkb), Hdr.out.drewN _⟩
          case measure => simp [Go.RowKit.intOf]; omega
        · have hne : ((a[k].toNat : Nat) : Int) ≠ ((b[k].toNat : Nat) : Int) := fun e => hxy (UInt8.toNat_inj.1 (by omega))
          have hd : (((a[k].toNat : Nat) : Int) != ((b[k].toNat : Nat) : Int)) = true := by rw [bne_iff_ne]; exact hne
          have He := Lib.hid (NP.ordL_miss Ht.out (get_data a k hka) (get_data b k hkb) hxy)
          clear hxy hne
          go_wp2
          go_quiet (fail)
          rename_i nq
          go_wp2_with fail
          have Hd2 := Lib.hid (Hdr.out.drewN nq)
          generalize wr.drewN nq = w2 at Hd2 ⊢
          go_quiet (first | (go_at_call 56; exact Calls.quiet_of_same ((rank_any _ _).mono fun e w' h => ⟨h.1, h.2.symm⟩)) | (go_at_call 55; exact Calls.quiet_of_same ((cmp_nat _ _ _).mono fun e w' h => ⟨h.1, h.2.symm⟩)))
          go_wp2
          go_ret
          exact ⟨by rw [He.out]; rfl, Hd2.out.drewN _⟩
      · have hkm : ¬ (k : Int) < m := by omega
        have ek : k = m := by omega
        subst ek
        have He := Lib.hid (NP.ordL_end (a := a.data.toList) (b := b.data.toList) (by rw [← Hsa.out, ← Hsb.out]; exact Hm.out) Ht.out)
        first
          | (have hna : ¬ (k : Int) < a.size := by omega
             go_wp2_with (go_at_call 55; refine (cmp_nat _ _ _).mono ?_; rintro e w' ⟨rfl, rfl⟩))
          | (have hnb : ¬ (k : Int) < b.size := by omega
             go_wp2_with (go_at_call 55; refine (cmp_nat _ _ _).mono ?_; rintro e w' ⟨rfl, rfl⟩))
        go_ret
        exact ⟨by rw [He.out, ← Hsa.out, ← Hsb.out]; rfl, Hdr.out⟩
end NO
end Go.Proofs.YtechekdiadpmoaaGreatDoor
