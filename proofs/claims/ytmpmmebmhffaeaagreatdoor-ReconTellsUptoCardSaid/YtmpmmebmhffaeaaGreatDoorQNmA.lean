/- Texts of this seat, put one behind the other: NameOrd NameAny NameFn. -/
import Derived.Test.YtmpmmebmhffaeaaGreatDoorQBase
import Derived.Test.YtmpmmebmhffaeaaGreatDoorChecked
import Derived.WalkKit
import Derived.WalkMore
import Derived.IntWalk
import Derived.Below
import Derived.Deep.QuietTactic
import Derived.BigQuiet
import Derived.Lib.Hide
import Derived.Test.YtmpmmebmhffaeaaGreatDoorShelf
import Derived.Laws.Cover4
import Derived.Lib.OthersKept
import Derived.Deep.LoopGhost
import Derived.Shelf.Unicode.ValidAny
import Derived.Shelf.Strings.PiecesUse
set_option linter.all false
set_option maxRecDepth 100000
set_option maxHeartbeats 25600000
section
/- Layer 1: the contracts of rank, cmp.Compare at int and name.Order: what they answer for every argument, in every world. -/
namespace Go.Proofs.YtmpmmebmhffaeaaGreatDoor
open Go.RowKit Go.Lib
namespace NO

theorem u8_lt (c : UInt8) : (c.toNat : Int) < 256 := by have := c.toNat_lt; omega
theorem rank_any (c : UInt8) (w : World) :
    Calls Tryz.prog 78 #[.int .u8 c.toNat] w fun e w' => e = .returned (.int .i64 (NP.rk c)) ∧ w = w' := by
  have h256 := u8_lt c
  have h0 : (0 : Int) ≤ (c.toNat : Int) := by omega
  by_cases h : c = 47
  · subst h
    go_enter Tryz.func78, Tryz.ntmps78
    go_wp2
    go_ret
    exact ⟨rfl, rfl⟩
  · have hb : ((c.toNat : Int) == 47) = false := by
      apply beq_eq_false_iff_ne.2
      intro e
      apply h
      apply UInt8.toNat_inj.1
      show c.toNat = 47
      omega
    have e : NP.rk c = c.toNat + 1 := by unfold NP.rk; rw [if_neg h]
    have E := Lib.hid e
    clear e
    clear h
    go_enter Tryz.func78, Tryz.ntmps78
    go_wp2
    go_ret
    exact ⟨by rw [E.out]; rfl, rfl⟩

theorem cmp_any (x y : Int) (w : World) :
    Calls Tryz.prog 77 #[.int .i64 x, .int .i64 y] w fun e w' => e = .returned (.int .i64 (if x < y then -1 else if y < x then 1 else 0)) ∧ w = w' := by
  by_cases h1 : x < y
  · rw [if_pos h1]
    go_enter Tryz.func77, Tryz.ntmps77
    go_wp2
    go_ret
    exact ⟨rfl, rfl⟩
  · rw [if_neg h1]
    by_cases h2 : y < x
    · rw [if_pos h2]
      go_enter Tryz.func77, Tryz.ntmps77
      go_wp2
      go_ret
      exact ⟨rfl, rfl⟩
    · rw [if_neg h2]
      go_enter Tryz.func77, Tryz.ntmps77
      go_wp2
      go_ret
      exact ⟨rfl, rfl⟩
theorem cmp_nat (x y : Nat) (w : World) :
    Calls Tryz.prog 77 #[.int .i64 x, .int .i64 y] w fun e w' => e = .returned (.int .i64 (NP.cmpN x y)) ∧ w = w' :=
  (cmp_any x y w).mono fun e w' ⟨he, hw⟩ => ⟨by
    rw [he]
    unfold NP.cmpN
    by_cases h1 : x < y
    · rw [if_pos h1, if_pos (by omega)]
    · by_cases h2 : y < x
      · rw [if_neg h1, if_pos h2, if_neg (by omega), if_pos (by omega)]
      · rw [if_neg h1, if_neg h2, if_neg (by omega), if_neg (by omega)], hw⟩

theorem get_data (s : ByteArray) (i : Nat) (h : i < s.size) : s.data.toList[i]? = some s[i] := Lib.data_getElem? s i h
theorem take_succ_eq {a b : List UInt8} {i : Nat} {x : UInt8} (h : a.take i = b.take i) (ha : a[i]? = some x) (hb : b[i]? = some x) : a.take (i + 1) = b.take (i + 1) := by
  rw [List.take_add_one, List.take_add_one, h, ha, hb]
def Drawn (w w' : World) : Prop := ∃ n, w' = w.drewN n
theorem Drawn.refl (w : World) : Drawn w w := ⟨0, rfl⟩
theorem Drawn.drewN {w w' : World} (h : Drawn w w') (n : Nat) : Drawn w (w'.drewN n) := by obtain ⟨k, rfl⟩ := h; exact ⟨k + n, by simp⟩
theorem Drawn.trans {w w' w2 : World} (h : Drawn w w') (k : Drawn w' w2) : Drawn w w2 := by obtain ⟨n, rfl⟩ := k; exact h.drewN n
set_option maxHeartbeats 1600000 in
theorem order_any (a b : ByteArray) (w : World) (ha : a.size ≤ maxLen) (hb : b.size ≤ maxLen) :
    Calls Tryz.prog 56 #[.string a, .string b] w fun e w' => e = .returned (.int .i64 (NP.ordL a.data.toList b.data.toList)) ∧ Drawn w w' := by
  unfold maxLen at ha hb
  have Hsa := Lib.hid (Lib.size_eq a)
  have Hsb := Lib.hid (Lib.size_eq b)
  by_cases hab : a.size ≤ b.size
  all_goals
    obtain ⟨m, hm⟩ : ∃ m, m = min a.size b.size := ⟨_, rfl⟩
    have hma : m ≤ a.size := by omega
    have hmb : m ≤ b.size := by omega
    have hmm : a.size ≤ m ∨ b.size ≤ m := by omega
    have Hm := Lib.hid hm
    clear hm
    go_enter Tryz.func56, Tryz.ntmps56
    go_wp2
    go_loopw [11] (fun i wr => ∃ k : Nat, k ≤ m ∧ i = .int .i64 k ∧ a.data.toList.take k = b.data.toList.take k ∧ Drawn w wr) (fun i _ => m - (Go.RowKit.intOf i).toNat)
    case atStart => exact ⟨0, Nat.zero_le _, rfl, rfl, Drawn.refl _⟩
    case round =>
      obtain ⟨k, hk, rfl, ht, hdr⟩ := hrel
      have Ht := Lib.hid ht
      have Hdr := Lib.hid hdr
      clear ht hdr
      by_cases hlt : k < m
      · have hz1 : (k : Int) < a.size := by omega
        have hz2 : (k : Int) < b.size := by omega
        have hka : k < a.size := by omega
        have hkb : k < b.size := by omega
        by_cases hxy : a[k] = b[k]
        · have hd : (((a[k].toNat : Nat) : Int) != ((b[k].toNat : Nat) : Int)) = false := by rw [hxy]; simp
          have Hxy := Lib.hid hxy
          clear hxy
          go_wp2
          go_quiet (fail)
          go_wp2
          go_roundw
          case rel =>
            exact ⟨k + 1, by omega, by go_num, take_succ_eq Ht.out (get_data a k hka) (by rw [Hxy.out]; exact get_data b k hkb), Hdr.out.drewN _⟩
          case measure => simp [Go.RowKit.intOf]; omega
        · have hne : ((a[k].toNat : Nat) : Int) ≠ ((b[k].toNat : Nat) : Int) := fun e => hxy (UInt8.toNat_inj.1 (by omega))
          have hd : (((a[k].toNat : Nat) : Int) != ((b[k].toNat : Nat) : Int)) = true := by rw [bne_iff_ne]; exact hne
          have He := Lib.hid (NP.ordL_miss Ht.out (get_data a k hka) (get_data b k hkb) hxy)
          clear hxy hne
          go_wp2
          go_quiet (fail)
          rename_i nq
          go_wp2_with fail
          have Hd2 := Lib.hid (Hdr.out.drewN nq)
          generalize wr.drewN nq = w2 at Hd2 ⊢
          go_quiet (first | (go_at_call 78; exact Calls.quiet_of_same ((rank_any _ _).mono fun e w' h => ⟨h.1, h.2.symm⟩)) | (go_at_call 77; exact Calls.quiet_of_same ((cmp_nat _ _ _).mono fun e w' h => ⟨h.1, h.2.symm⟩)))
          go_wp2
          go_ret
          exact ⟨by rw [He.out]; rfl, Hd2.out.drewN _⟩
      · have hkm : ¬ (k : Int) < m := by omega
        have ek : k = m := by omega
        subst ek
        have He := Lib.hid (NP.ordL_end (a := a.data.toList) (b := b.data.toList) (by rw [← Hsa.out, ← Hsb.out]; exact Hm.out) Ht.out)
        first
          | (have hna : ¬ (k : Int) < a.size := by omega
             go_wp2_with (go_at_call 77; refine (cmp_nat _ _ _).mono ?_; rintro e w' ⟨rfl, rfl⟩))
          | (have hnb : ¬ (k : Int) < b.size := by omega
             go_wp2_with (go_at_call 77; refine (cmp_nat _ _ _).mono ?_; rintro e w' ⟨rfl, rfl⟩))
        go_ret
        exact ⟨by rw [He.out, ← Hsa.out, ← Hsb.out]; rfl, Hdr.out⟩
end NO
end Go.Proofs.YtmpmmebmhffaeaaGreatDoor
end
section
/- strings.IndexRune at the two bytes that no name may hold, for a rune beyond ASCII; strings.ContainsAny at these two bytes for every short text. -/
namespace Go.Proofs.YtmpmmebmhffaeaaGreatDoor
open Go.RowKit Go.Lib
namespace NA
def slz : ByteArray := ⟨#[47, 0]⟩

theorem encode_big (r : Int) (h0 : 2048 ≤ r) (h1 : r ≤ 1114111) (hv : Lib.validRune r = true) : 3 ≤ (Utf8.encode r).size := by
  unfold Utf8.encode
  unfold Lib.validRune at hv
  have hval : Utf8.valid r = true := by
    unfold Utf8.valid
    simp only [decide_eq_true_eq, Bool.or_eq_true, Bool.and_eq_true] at hv ⊢
    omega
  simp only [hval, if_true]
  rw [if_neg (by omega), if_neg (by omega)]
  split <;> simp [ByteArray.size]
theorem idx_empty (c : Int) (w : World) : Calls Tryz.prog 126 #[.string ByteArray.empty, .int .u8 c] w fun e w' => e = .returned (.int .i64 (-1)) ∧ w' = w := Tryz.strings_IndexByte _ _ _
def End1 (w : World) (e : Ending) (w' : World) : Prop := e = .returned (.int .i64 (-1)) ∧ Below w.heap.size w w'

set_option maxRecDepth 100000 in
set_option maxHeartbeats 800000 in
theorem rune_err (w : World) :
    Calls Tryz.prog 121 #[.string slz, .int .i32 65533] w (End1 w) := by
  have hsz : slz.size = 2 := rfl
  go_enter Tryz.func121, Tryz.ntmps121
  go_wp2
  go_loopg [5, 6] 2 (fun g _ _ wx => ∃ i : Nat, i + g = 2 ∧ wx = w.iter slz i)
  case atStart => exact ⟨0, by omega, rfl⟩
  case round =>
    obtain ⟨i, hig, rfl⟩ := hrel
    match gk, hig with
    | 0, hig =>
      obtain rfl : i = 2 := by omega
      have hnx := run_next_end (P := Tryz.prog) w slz 2
      go_wp2
      go_ret
      exact ⟨rfl, (Below.refl _ _).alloc (Nat.le_refl _) _⟩
    | 1, hig =>
      obtain rfl : i = 1 := by omega
      have hnx := fun ty => run_next_ascii (P := Tryz.prog) w slz 1 ty (by decide) (by decide)
      go_wp2
      go_roundg 0
      case measure => omega
      case rel => exact ⟨2, by omega, rfl⟩
    | 2, hig =>
      obtain rfl : i = 0 := by omega
      have hnx := fun ty => run_next_ascii (P := Tryz.prog) w slz 0 ty (by decide) (by decide)
      go_wp2
      go_roundg 1
      case measure => omega
      case rel => exact ⟨1, by omega, rfl⟩
set_option maxRecDepth 100000 in
set_option maxHeartbeats 800000 in
theorem rune_big (r : Int) (w : World) (h0 : 2048 ≤ r) (h1 : r ≤ 1114111) (h2 : r ≠ 65533) :
    Calls Tryz.prog 121 #[.string slz, .int .i32 r] w fun e w' => e = .returned (.int .i64 (-1)) ∧ w = w' := by
  have hb : (r == 65533) = false := by simpa using h2
  have h0' : decide (r < 128) = false := by simp; omega
  clear h2
  go_enter Tryz.func121, Tryz.ntmps121
  go_wp2_with fail
  refine (Tryz.utf8_ValidRune _ _).mono ?_
  rintro e w' ⟨rfl, rfl⟩
  cases hv : Lib.validRune r
  · go_wp2
    go_ret
    exact ⟨rfl, rfl⟩
  · have hsz : slz.size = 2 := rfl
    obtain ⟨t, ht⟩ : ∃ t, Utf8.encode r = t := ⟨_, rfl⟩
    have h3 : 3 ≤ t.size := by rw [← ht]; exact encode_big r h0 h1 hv
    have h4 : t.size ≤ 4 := by rw [← ht]; exact encode_size_le r
    clear hv
    go_wp2
    go_step3
    go_wp2
    go_loopg [9] 1 (fun _ i wx => i = .int .i64 (t.size - 1) ∧ wx = w')
    case atStart => exact ⟨rfl, rfl⟩
    case round =>
      obtain ⟨rfl, rfl⟩ := hrel
      go_wp2
      try rw [Exit.noGoto_ret]
      go_ret
      exact ⟨rfl, rfl⟩
theorem encode_two (r : Int) (h0 : 128 ≤ r) (h1 : r < 2048) : ∃ x y : UInt8, Utf8.encode r = ⟨#[x, y]⟩ ∧ y ≠ 0 := by
  unfold Utf8.encode
  have hval : Utf8.valid r = true := by
    unfold Utf8.valid
    simp only [decide_eq_true_eq, Bool.or_eq_true, Bool.and_eq_true]
    omega
  simp only [hval, if_true]
  rw [if_neg (by omega), if_pos (by omega)]
  refine ⟨_, _, rfl, ?_⟩
  intro h
  have := congrArg UInt8.toNat h
  simp at this
  omega
set_option maxRecDepth 100000 in
set_option maxHeartbeats 800000 in
theorem rune_two (r : Int) (w : World) (h0 : 128 ≤ r) (h1 : r < 2048) :
    Calls Tryz.prog 121 #[.string slz, .int .i32 r] w fun e w' => e = .returned (.int .i64 (-1)) ∧ ∃ n, w' = w.drewN n := by
  have hb : (r == 65533) = false := by simp; omega
  have h0' : decide (r < 128) = false := by simp; omega
  obtain ⟨x, y, ht, hy⟩ := encode_two r h0 h1
  have hne : (((0 : Int)) != ((y.toNat : Nat) : Int)) = true := by
    rw [bne_iff_ne]
    intro e
    exact hy (UInt8.toNat_inj.1 (by show y.toNat = 0; omega))
  clear hy
  go_enter Tryz.func121, Tryz.ntmps121
  go_wp2_with fail
  refine (Tryz.utf8_ValidRune _ _).mono ?_
  rintro e w' ⟨rfl, rfl⟩
  have hv : Lib.validRune r = true := by unfold Lib.validRune; simp; omega
  rw [hv]
  clear hv
  go_wp2
  go_step3
  go_wp2
  go_loopg [9] 1 (fun _ i wx => i = .int .i64 1 ∧ wx = w')
  case atStart => exact ⟨rfl, rfl⟩
  case round =>
    obtain ⟨rfl, rfl⟩ := hrel
    unfold slz
    clear ht
    have hd : ((((⟨#[47, 0]⟩ : ByteArray)[1]'(by decide)).toNat : Int) != (((⟨#[x, y]⟩ : ByteArray)[1]'(by show 1 < 2; omega)).toNat : Int)) = true := hne
    clear hne
    go_wp2
    go_step3
    go_wp2
    go_quiet (fail)
    rename_i nq
    go_wp2_with fail
    generalize hw2 : wr.drewN nq = w2
    have Hw2 := Lib.hid hw2
    clear hw2
    go_quiet ((go_at_call 126; exact Calls.quiet_of_same (idx_empty _ _)))
    go_wp2
    rw [Exit.noGoto_ret]
    go_wp2
    rw [Exit.noGoto_ret]
    go_ret
    refine ⟨rfl, ?_⟩
    rw [← Hw2.out, World.drewN_drewN]
    exact ⟨_, rfl⟩
theorem below_drewN {B : Nat} {a w : World} (h : Below B a w) (n : Nat) : Below B a (w.drewN n) := ⟨h.os, h.tape, h.output, h.size, h.block⟩

/-- A rune beyond ASCII is neither of the two bytes. -/
theorem rune_none (r : Int) (w : World) (h0 : 128 ≤ r) (h1 : r ≤ 1114111) :
    Calls Tryz.prog 121 #[.string slz, .int .i32 r] w (End1 w) := by
  by_cases h2 : r = 65533
  · subst h2; exact rune_err w
  · by_cases h3 : r < 2048
    · refine (rune_two r w h0 h3).mono ?_
      rintro e w' ⟨rfl, n, rfl⟩
      exact ⟨rfl, below_drewN (Below.refl _ _) n⟩
    · refine (rune_big r w (by omega) h1 h2).mono ?_
      rintro e w' ⟨rfl, rfl⟩
      exact ⟨rfl, Below.refl _ _⟩

/- ContainsAny of the two bytes, for every text of at most 64 bytes -/
theorem high_of (x : Nat) (h : x / 64 = 2) : 128 ≤ x := by omega
theorem decode_high (s : ByteArray) (pos : Nat) (h : pos < s.size) (hb : 128 ≤ (s.get! pos).toNat) :
    128 ≤ (Utf8.decode s pos).1 ∧ (Utf8.decode s pos).1 ≤ 1114111 ∧ 1 ≤ (Utf8.decode s pos).2 ∧ pos + (Utf8.decode s pos).2 ≤ s.size ∧ ∀ k, k < (Utf8.decode s pos).2 → 128 ≤ (s.get! (pos + k)).toNat := by
  have l0 := (s.get! pos).toNat_lt; have l1 := (s.get! (pos + 1)).toNat_lt; have l2 := (s.get! (pos + 2)).toNat_lt; have l3 := (s.get! (pos + 3)).toNat_lt
  have k0 : 128 ≤ (s.get! (pos + 0)).toNat := hb
  have one : ∀ k, k < 1 → 128 ≤ (s.get! (pos + k)).toNat := by
    intro k hk
    have e : k = 0 := by omega
    rw [e]
    exact k0
  unfold Utf8.decode Utf8.runeError Utf8.valid
  simp only [Nat.add_zero, Bool.and_eq_true, Bool.or_eq_true, beq_iff_eq, decide_eq_true_eq, ge_iff_le]
  rw [if_neg (by omega)]
  split
  · rename_i h1
    have k1 := high_of _ h1.2.2
    split
    · refine ⟨by simp only; omega, by simp only; omega, by simp only; omega, by simp only; omega, ?_⟩
      intro k hk
      simp only at hk
      rcases (by omega : k = 0 ∨ k = 1) with rfl | rfl <;> assumption
    · exact ⟨by simp only; omega, by simp only; omega, by simp only; omega, by simp only; omega, one⟩
  · split
    · rename_i h2
      have k1 := high_of _ h2.1.2.2
      have k2 := high_of _ h2.2.2
      split
      · refine ⟨by simp only; omega, by simp only; omega, by simp only; omega, by simp only; omega, ?_⟩
        intro k hk
        simp only at hk
        rcases (by omega : k = 0 ∨ k = 1 ∨ k = 2) with rfl | rfl | rfl <;> assumption
      · exact ⟨by simp only; omega, by simp only; omega, by simp only; omega, by simp only; omega, one⟩
    · split
      · rename_i h3
        have k1 := high_of _ h3.1.1.2.2
        have k2 := high_of _ h3.1.2.2
        have k3 := high_of _ h3.2.2
        split
        · refine ⟨by simp only; omega, by simp only; omega, by simp only; omega, by simp only; omega, ?_⟩
          intro k hk
          simp only at hk
          rcases (by omega : k = 0 ∨ k = 1 ∨ k = 2 ∨ k = 3) with rfl | rfl | rfl | rfl <;> assumption
        · exact ⟨by simp only; omega, by simp only; omega, by simp only; omega, by simp only; omega, one⟩
      · exact ⟨by simp only; omega, by simp only; omega, by simp only; omega, by simp only; omega, one⟩
theorem noAny_wide {s : ByteArray} {i : Nat} : ∀ n, (∀ k, k < n → 128 ≤ (s.get! (i + k)).toNat) → i + n ≤ s.size → Lib.NoAny s.data.toList [47, 0] i → Lib.NoAny s.data.toList [47, 0] (i + n)
  | 0, _, _, h => h
  | n + 1, hk, hn, h => by
    have h1 := noAny_wide n (fun k hk' => hk k (by omega)) (by omega) h
    have hx := hk n (by omega)
    refine h1.succ (x := s.get! (i + n)) ?_ ?_
    · show s.data.toList[i + n]? = _
      rw [Lib.data_getElem? s (i + n) (by omega), Utf8W.get!_of_lt s (i + n) (by omega)]
    · have e1 : s.get! (i + n) ≠ 47 := by intro e; rw [e] at hx; simp at hx
      have e2 : s.get! (i + n) ≠ 0 := by intro e; rw [e] at hx; simp at hx
      simp [e1, e2]
def IdxPost (s : ByteArray) (w : World) (e : Ending) (w' : World) : Prop := e = .returned (.int .i64 (Lib.indexAny s.data.toList [47, 0])) ∧ Below w.heap.size w w'
theorem ascii_idx (x : UInt8) (w : World) (hx : x.toNat < 128) :
    Calls Tryz.prog 121 #[.string slz, .int .i32 x.toNat] w fun e w' => e = .returned (.int .i64 (Lib.indexByte [47, 0] x)) ∧ w = w' := by
  refine (Tryz.strings_IndexRune_ascii slz (x.toNat : Int) w (by omega) (by omega)).mono ?_
  rintro e w' ⟨rfl, rfl⟩
  exact ⟨by simp [slz], rfl⟩
set_option maxRecDepth 100000 in
set_option maxHeartbeats 1600000 in
theorem any_short (s : ByteArray) (w : World) (h8 : s.size ≤ 8) :
    Calls Tryz.prog 116 #[.string s, .string slz] w (IdxPost s w) := by
  have hemp : slz.toList.isEmpty = false := by rw [Lib.toList_data]; rfl
  have hsz : slz.size = 2 := rfl
  have h8z : decide ((8 : Int) < (s.size : Int)) = false := decide_eq_false (by omega)
  go_enter Tryz.func116, Tryz.ntmps116
  go_wp2_with (go_at_call 122; refine (Tryz.strings_shouldUseASCIISet _ _).mono ?_; rintro e w' ⟨rfl, hw⟩; rw [hw, h8z])
  go_loopg [9, 10] s.size (fun g _ _ wx => ∃ i : Nat, i ≤ s.size ∧ s.size ≤ i + g ∧ wx.heap[w.heap.size]? = some (.stringIter s i) ∧ Below w.heap.size w wx ∧ Lib.NoAny s.data.toList [47, 0] i)
  case atStart => exact ⟨0, by omega, by omega, World.iter_heap _ _ _, (Below.refl _ _).alloc (Nat.le_refl _) _, Lib.NoAny.zero _ _⟩
  case round =>
    obtain ⟨i, hi, hig, hit, hb, hno⟩ := hrel
    have HN := Lib.hid hno
    have HI := Lib.hid hit
    have HB := Lib.hid hb
    clear hno hit hb
    by_cases hlt : i < s.size
    · obtain ⟨g', rfl⟩ : ∃ g', gk = g' + 1 := ⟨gk - 1, by omega⟩
      obtain ⟨W2, hW2⟩ : ∃ W2, wr.iterAt w.heap.size s (i + (Utf8.decode s i).2) = W2 := ⟨_, rfl⟩
      have HI2 := Lib.hid (Lib.iterAt_heap wr w.heap.size s i (i + (Utf8.decode s i).2) HI.out)
      have HB2 := Lib.hid (Lib.below_iterAt HB.out (Nat.le_refl w.heap.size) s (i + (Utf8.decode s i).2))
      rw [hW2] at HI2 HB2
      have hnx : ∀ ty, (Instr.next (.pointer (some ⟨w.heap.size, 0, none⟩)) true ty).run Tryz.prog wr = .ok (.tuple #[.bool true, .int .i64 i, .int .i32 (Utf8.decode s i).1]) W2 := fun ty => by rw [← hW2]; exact Lib.run_next_any_at wr w.heap.size s i ty HI.out hlt
      clear hW2
      by_cases hasc : (s[i]'hlt).toNat < 128
      · have hdec := decode_ascii s i hlt hasc
        rw [hdec] at HI2 hnx
        simp only at HI2 hnx
        obtain ⟨x, hx⟩ : ∃ x : UInt8, s[i]'hlt = x := ⟨_, rfl⟩
        have Hxl : Hid (s.data.toList[i]? = some x) := Lib.hid (by rw [← hx]; exact Lib.data_getElem? s i hlt)
        rw [hx] at hnx hasc
        clear hx hdec
        have hcon := Lib.contains_iff_indexByte [47, 0] x
        have cR := fun W => ascii_idx x W hasc
        cases hin : ([47, 0] : List UInt8).contains x
        · rw [hin] at hcon
          have hneg : ¬ ((0 : Int) ≤ Lib.indexByte [47, 0] x) := of_decide_eq_false hcon.symm
          clear hcon
          have Hin := Lib.hid hin
          clear hin
          go_wp2_with (go_at_call 121; refine (cR _).mono ?_; rintro e w' ⟨rfl, rfl⟩)
          go_roundg g'
          case measure => omega
          case rel => exact ⟨i + 1, by omega, by omega, HI2.out, HB2.out, HN.out.succ Hxl.out Hin.out⟩
        · rw [hin] at hcon
          have hpos : (0 : Int) ≤ Lib.indexByte [47, 0] x := of_decide_eq_true hcon.symm
          clear hcon
          have Hin := Lib.hid hin
          clear hin
          go_wp2_with (go_at_call 121; refine (cR _).mono ?_; rintro e w' ⟨rfl, rfl⟩)
          go_ret
          exact ⟨by rw [Lib.indexAny_hit HN.out Hxl.out Hin.out]; rfl, HB2.out⟩
      · have hx : 128 ≤ (s.get! i).toNat := by rw [Utf8W.get!_of_lt s i hlt]; omega
        obtain ⟨d1, d2, d3, d4, d5⟩ := decode_high s i hlt hx
        have HN2 := Lib.hid (noAny_wide _ d5 d4 HN.out)
        generalize (Utf8.decode s i).1 = r at hnx d1 d2
        generalize (Utf8.decode s i).2 = k at hnx d3 d4 d5 HI2 HN2
        clear d5 hx hasc
        have cR := fun W => rune_none (r : Int) W (by omega) (by omega)
        go_wp2_with fail
        refine (cR _).mono ?_
        rintro e w' ⟨rfl, hbe⟩
        have HB3 := Lib.hid (HB2.out.trans (hbe.mono HB2.out.size))
        have HI3 : Hid (w'.heap[w.heap.size]? = some (.stringIter s (i + k))) := Lib.hid (by
          have h1 := HI2.out
          have hlt2 : w.heap.size < W2.heap.size := (Array.getElem?_eq_some_iff.1 h1).1
          rw [hbe.block _ hlt2]; exact h1)
        clear hbe
        go_wp2
        go_roundg g'
        case measure => omega
        case rel => exact ⟨i + k, by omega, by omega, HI3.out, HB3.out, HN2.out⟩
    · obtain rfl : i = s.size := by omega
      have hnx := fun ty => Lib.run_next_end_at (P := Tryz.prog) wr w.heap.size s s.size ty HI.out hlt
      go_wp2
      go_ret
      exact ⟨by rw [Lib.indexAny_none (by rw [← Lib.size_eq]; exact HN.out)]; rfl, HB.out⟩
end NA
end Go.Proofs.YtmpmmebmhffaeaaGreatDoor
end
section
/- Layer 1: the contracts of name.Name, name.Path, name.Within: what each answers, for every text, in every world in which Go's tables lie. -/
namespace Go.Proofs.YtmpmmebmhffaeaaGreatDoor
open Go.RowKit Go.Lib
namespace NF

def gFirst : Nat := Tryz.laysValid_ren.g 3
def gAcc : Nat := Tryz.laysValid_ren.g 4
/-- What the calls read of Go's own variables: the two tables, and some integer in MaxLen. -/
structure Env (w : World) : Prop where
  tabs : Lib.Utf8Tabs (Tryz.laysValid_ren.g 3) (Tryz.laysValid_ren.g 4) w
  maxl : ∃ m, w.cell? ⟨0, 0, none⟩ = some (.int .i64 m)
theorem Env.below {w w' : World} (h : Env w) (hb : Below w.heap.size w w') : Env w' := by
  refine ⟨Utf8Tabs_below h.tabs hb, ?_⟩
  obtain ⟨m, hm⟩ := h.maxl
  exact ⟨m, by rw [hb.cell (World.block_lt_of_cell? _ _ hm)]; exact hm⟩

def Bad (s : ByteArray) : Prop := s.toList = [] ∨ 64 < s.size ∨ s.toList = [46] ∨ s.toList = [46, 46]
theorem bad_name {s : ByteArray} (h : Bad s) : NP.nameL s.data.toList = false := by
  unfold Bad at h
  rw [Lib.toList_data, Lib.size_eq] at h
  unfold NP.nameL
  rcases h with h | h | h | h
  · rw [h]; rfl
  · rw [decide_eq_false (p := s.data.toList.length ≤ 64) (by omega)]; simp
  · rw [h]; rfl
  · rw [h]; rfl
theorem good_name {s : ByteArray} (h1 : s.toList.isEmpty = false) (h2 : (s.size : Int) ≤ 64) (h3 : (s.toList == [46]) = false) (h4 : (s.toList == [46, 46]) = false) :
    NP.nameL s.data.toList = (Lib.validD s.data.toList && NP.noneOf s.data.toList) := by
  rw [Lib.toList_data] at h1 h3 h4
  rw [Lib.size_eq] at h2
  unfold NP.nameL
  have e1 : s.data.toList ≠ [] := by intro e; rw [e] at h1; simp at h1
  have e2 : s.data.toList.length ≤ 64 := by omega
  have e3 : s.data.toList ≠ [46] := by intro e; rw [e] at h3; simp at h3
  have e4 : s.data.toList ≠ [46, 46] := by intro e; rw [e] at h4; simp at h4
  rw [decide_eq_true e1, decide_eq_true e2, decide_eq_true e3, decide_eq_true e4]
  simp
theorem noneOf_eq (l : List UInt8) : NP.noneOf l = !(Lib.containsAny l [47, 0]) := by
  unfold NP.noneOf Lib.containsAny
  have : (l.contains 47 || l.contains 0) = decide (0 ≤ Lib.indexAny l [47, 0]) := by
    induction l with
    | nil => rfl
    | cons b l ih =>
      have hg := Lib.indexAny_ge [47, 0] l
      rw [Lib.indexAny]
      by_cases hb : ([47, 0] : List UInt8).contains b = true
      · rw [if_pos hb]
        have : b = 47 ∨ b = 0 := by simpa using hb
        rcases this with rfl | rfl <;> simp
      · rw [if_neg hb]
        have hn : ¬ (b = 47) ∧ ¬ (b = 0) := by simpa using hb
        have e1 : (b :: l).contains 47 = l.contains 47 := by simp [Ne.symm hn.1]
        have e2 : (b :: l).contains 0 = l.contains 0 := by simp [Ne.symm hn.2]
        rw [e1, e2, ih]
        by_cases hm : Lib.indexAny l [47, 0] = -1
        · rw [hm]; rfl
        · rw [if_neg (by simpa using hm)]
          rw [decide_eq_true (by omega), decide_eq_true (by omega)]
  rw [this]
def ValidPost (s : ByteArray) (w : World) (e : Ending) (w' : World) : Prop := e = .returned (.bool (Lib.validD s.data.toList)) ∧ Below w.heap.size w w'
theorem valid_any (s : ByteArray) (w : World) (he : Env w) (hs : s.size ≤ 9223372036854775807) :
    Calls Tryz.prog 98 #[.string s] w fun e w' => e = .returned (.bool (Lib.validD s.data.toList)) ∧ Below w.heap.size w w' :=
  Any.utf8_ValidString Tryz.laysValid s w hs he.tabs
set_option maxRecDepth 100000 in
theorem idx_any (s : ByteArray) (w : World) (h : s.size ≤ 64) :
    Calls Tryz.prog 116 #[.string s, .string NA.slz] w (NA.IdxPost s w) := by
  by_cases h8 : s.size ≤ 8
  · exact NA.any_short s w h8
  · have hz : (Tryz.prog.info? 135).map (fun i => (i.zero, i.size)) = some (some (.agg (Array.replicate 256 (.bool false))), 256) := by kernel_rfl
    refine (Any.strings_IndexAny_long Tryz.lays153 (zero_of_info hz).1 (zero_of_info hz).2 s NA.slz w (by decide) (by omega) (by omega) (by decide) ?_).mono ?_
    · intro j b hj
      match j with
      | 0 => simp [NA.slz] at hj; subst hj; decide
      | 1 => simp [NA.slz] at hj; subst hj; decide
      | j + 2 => simp [NA.slz] at hj
    · rintro e w' ⟨rfl, rfl⟩
      exact ⟨rfl, ((Below.refl _ _).alloc (Nat.le_refl _) _).alloc (by simp) _⟩
theorem has_any (s : ByteArray) (w : World) (h : s.size ≤ 64) :
    Calls Tryz.prog 99 #[.string s, .string NA.slz] w fun e w' => e = .returned (.bool (Lib.containsAny s.data.toList [47, 0])) ∧ Below w.heap.size w w' := by
  have c := idx_any s w h
  unfold Lib.containsAny
  go_enter Tryz.func99, Tryz.ntmps99
  go_wp2_with fail
  refine c.mono ?_
  rintro e w' ⟨rfl, hb⟩
  go_wp2
  go_ret
  exact ⟨rfl, hb⟩
set_option maxRecDepth 100000 in
set_option maxHeartbeats 800000 in
theorem name_any (s : ByteArray) (w : World) (he : Env w) (hs : s.size ≤ maxLen) :
    Calls Tryz.prog 75 #[.string s] w fun e w' => e = .returned (.bool (NP.nameL s.data.toList)) ∧ Below w.heap.size w w' := by
  unfold maxLen at hs
  have cV := valid_any s w he hs
  go_enter Tryz.func75, Tryz.ntmps75
  go_wp2_with fail
  · have h : s.toList = [] := by assumption
    go_ret
    exact ⟨by rw [bad_name (.inl h)]; rfl, Below.refl _ _⟩
  · have h : s.toList = [46] := by assumption
    go_ret
    exact ⟨by rw [bad_name (.inr (.inr (.inl h)))]; rfl, Below.refl _ _⟩
  · rename_i h
    have hb : Bad s := by
      unfold Bad
      rcases h with ((h | h) | h) | h
      · exact .inl (by simpa using h)
      · exact .inr (.inl (by omega))
      · exact .inr (.inr (.inl (by simpa using h)))
      · exact .inr (.inr (.inr (by simpa using h)))
    go_ret
    exact ⟨by rw [bad_name hb]; rfl, Below.refl _ _⟩
  · have h : ((s.toList.isEmpty = false ∧ (s.size : Int) ≤ 64) ∧ (s.toList == [46]) = false) ∧ (s.toList == [46, 46]) = false := by assumption
    obtain ⟨⟨⟨h1, h2⟩, h3⟩, h4⟩ := h
    have Hg := Lib.hid (good_name h1 h2 h3 h4)
    have hsz : s.size ≤ 64 := by omega
    clear h1 h3 h4
    refine cV.mono ?_
    rintro e w1 ⟨rfl, hb⟩
    cases hv : Lib.validD s.data.toList
    · have Hv := Lib.hid hv
      clear hv
      go_wp2
      go_ret
      exact ⟨by rw [Hg.out, Hv.out]; rfl, hb⟩
    · have Hv := Lib.hid hv
      clear hv
      have c := has_any s w1 hsz
      clear cV
      go_wp2_with fail
      refine c.mono ?_
      rintro e w2 ⟨rfl, hb2⟩
      go_wp2
      go_ret
      exact ⟨by rw [Hg.out, Hv.out, noneOf_eq]; rfl, hb.trans (hb2.mono hb.size)⟩
  · have h : (64 : Int) < s.size := by assumption
    go_ret
    exact ⟨by rw [bad_name (.inr (.inl (by omega)))]; rfl, Below.refl _ _⟩

/- allNames: of a list of texts that lie in memory -/
theorem all_nil (a : Option Addr) (c : Nat) (w : World) :
    Calls Tryz.prog 53 #[.slice a 0 c] w fun e w' => e = .returned (.bool true) ∧ w = w' := by
  go_enter Tryz.func53, Tryz.ntmps53
  go_wp2
  go_loop [7] (fun i => i = .int .i64 0) (fun _ => 0)
  case atStart => rfl
  case round =>
    subst hrel
    go_wp2
    go_ret
    exact ⟨rfl, rfl⟩
theorem all_snoc {xs : List ByteArray} {k : Nat} {x : ByteArray} (h : NP.allL ((xs.take k).map (·.data.toList)) = true) (hx : xs[k]? = some x) (hn : NP.nameL x.data.toList = true) :
    NP.allL ((xs.take (k + 1)).map (·.data.toList)) = true := by
  rw [List.take_add_one, hx]
  unfold NP.allL at h ⊢
  simp only [Option.toList_some, List.map_append, List.map_cons, List.map_nil, List.all_append, List.all_cons, List.all_nil, h, hn, Bool.and_self]
theorem all_miss {xs : List ByteArray} {k : Nat} {x : ByteArray} (hx : xs[k]? = some x) (hn : NP.nameL x.data.toList = false) : NP.allL (xs.map (·.data.toList)) = false := by
  unfold NP.allL
  rw [List.all_eq_false]
  exact ⟨x.data.toList, List.mem_map.2 ⟨x, List.mem_of_getElem? hx, rfl⟩, by rw [hn]; simp⟩
set_option maxHeartbeats 800000 in
theorem all_any (bk o c : Nat) (xs : List ByteArray) (w : World) (he : Env w) (hcells : ∀ (j : Nat) x, xs[j]? = some x → w.cell? ⟨bk, o + j, none⟩ = some (.string x))
    (hbk : bk < w.heap.size) (hsz : ∀ x ∈ xs, x.size ≤ maxLen) (hlen : xs.length ≤ maxLen) :
    Calls Tryz.prog 53 #[.slice (some ⟨bk, o, none⟩) xs.length c] w fun e w' => e = .returned (.bool (NP.allL (xs.map (·.data.toList)))) ∧ Below w.heap.size w w' := by
  have Hsz := Lib.hid hsz
  have Hc := Lib.hid hcells
  have He := Lib.hid he
  clear hsz hcells he
  unfold maxLen at hlen
  go_enter Tryz.func53, Tryz.ntmps53
  go_wp2
  go_loopw [7] (fun i wr => ∃ k : Nat, k ≤ xs.length ∧ i = .int .i64 k ∧ NP.allL ((xs.take k).map (·.data.toList)) = true ∧ Below w.heap.size w wr) (fun i _ => xs.length - (Go.RowKit.intOf i).toNat)
  case atStart => exact ⟨0, Nat.zero_le _, rfl, rfl, Below.refl _ _⟩
  case round =>
    obtain ⟨k, hk, rfl, ha, hb⟩ := hrel
    have Ha := Lib.hid ha
    have Hb := Lib.hid hb
    clear ha hb
    by_cases hlt : k < xs.length
    · obtain ⟨x, hx⟩ : ∃ x, xs[k]? = some x := ⟨xs[k], List.getElem?_eq_getElem hlt⟩
      have Hx := Lib.hid hx
      have hz : (k : Int) < xs.length := by omega
      have hcell : wr.cell? ⟨bk, o + k, none⟩ = some (.string x) := by
        rw [Hb.out.cell (p := ⟨bk, o + k, none⟩) hbk]; exact Hc.out k x hx
      have cN := name_any x wr (He.out.below Hb.out) (Hsz.out x (List.mem_of_getElem? hx))
      clear hx
      go_wp2_with fail
      refine cN.mono ?_
      rintro e w2 ⟨rfl, hb2⟩
      have Hb2 := Lib.hid (Hb.out.trans (hb2.mono Hb.out.size))
      clear hb2 cN hcell
      cases hn : NP.nameL x.data.toList
      · have Hn := Lib.hid hn
        clear hn
        go_wp2
        go_ret
        exact ⟨by rw [all_miss Hx.out Hn.out]; rfl, Hb2.out⟩
      · have Hn := Lib.hid hn
        clear hn
        go_wp2
        go_roundw
        case rel => exact ⟨k + 1, by omega, by go_num, all_snoc Ha.out Hx.out Hn.out, Hb2.out⟩
        case measure => simp [Go.RowKit.intOf]; omega
    · have hz : ¬ (k : Int) < xs.length := by omega
      have ek : k = xs.length := by omega
      have Hek := Lib.hid ek
      clear ek
      go_wp2
      go_ret
      exact ⟨by have := Ha.out; rw [Hek.out, List.take_length] at this; rw [this]; rfl, Hb.out⟩

/- Path -/
def slash : ByteArray := ⟨#[47]⟩
theorem splitB_le (sep : ByteArray) : ∀ (k : Nat) (s x : ByteArray), x ∈ Lib.splitB sep 0 k s → x.size ≤ s.size
  | 0, s, x, h => by simp [Lib.splitB] at h; subst h; exact Nat.le_refl _
  | k + 1, s, x, h => by
    unfold Lib.splitB at h
    split at h
    · simp at h; subst h; exact Nat.le_refl _
    · rcases List.mem_cons.1 h with rfl | h
      · rw [ByteArray.size_extract]; omega
      · have := splitB_le sep k _ x h
        rw [ByteArray.size_extract] at this
        omega
theorem count_any (s : ByteArray) (w : World) :
    Calls Tryz.prog 52 #[.string s, .string ⟨#[47]⟩] w fun e w' => e = .returned (.int .i64 (s.data.toList.count 47 : Nat)) ∧ w = w' := by
  refine (Tryz.strings_Count_one s 47 w).mono ?_
  rintro e w' ⟨rfl, rfl⟩
  exact ⟨rfl, rfl⟩
/-- The texts lie in block bk, one behind the other, from its head on. -/
structure Lies (bk : Nat) (xs : List ByteArray) (w : World) : Prop where
  cells : ∀ (j : Nat) x, xs[j]? = some x → w.cell? ⟨bk, 0 + j, none⟩ = some (.string x)
  block : bk < w.heap.size
theorem split_any (s : ByteArray) (w : World) (he : Env w) (hs : s.size ≤ 400) :
    Calls Tryz.prog 54 #[.string s, .string ⟨#[47]⟩] w fun e w' => ∃ xs : List ByteArray, e = .returned (.slice (some ⟨w.heap.size, 0, none⟩) xs.length xs.length) ∧
      xs.map (·.data.toList) = Lib.split s.data.toList [47] ∧ (∀ x ∈ xs, x.size ≤ s.size) ∧ xs.length = s.data.toList.count 47 + 1 ∧ Lies w.heap.size xs w' ∧ Below w.heap.size w w' := by
  obtain ⟨m, hm⟩ := he.maxl
  refine (Tryz.strings_Split s ⟨#[47]⟩ m w (by omega) hm (by decide)).mono ?_
  rintro e w' ⟨rfl, rfl⟩
  have hl : (Lib.splitB ⟨#[47]⟩ 0 (Lib.countB s ⟨#[47]⟩) s).length = Lib.countB s ⟨#[47]⟩ + 1 := Lib.splitB_all _ (by decide) 0 _ s rfl
  have hc : Lib.countB s ⟨#[47]⟩ = s.data.toList.count 47 := Lib.count_one 47 s.data.toList
  exact ⟨Lib.splitB ⟨#[47]⟩ 0 (Lib.countB s ⟨#[47]⟩) s, by rw [hl], by rw [Lib.splitB_data]; rfl, fun x hx => splitB_le _ _ _ _ hx, by rw [hl, hc], ⟨pieces_cell w _ 9, pieces_block w _⟩, (Below.refl _ _).alloc (Nat.le_refl _) _⟩
theorem path_parts {s : ByteArray} (h1 : s.size ≤ 400) (h2 : s.data.toList.count 47 < 16) : NP.pathL s.data.toList = NP.allL (Lib.split s.data.toList [47]) := by
  rw [Lib.size_eq] at h1
  unfold NP.pathL
  rw [decide_eq_true h1, decide_eq_true h2]
  simp
theorem path_long {s : ByteArray} (h1 : 400 < s.size) : NP.pathL s.data.toList = false := by
  rw [Lib.size_eq] at h1
  unfold NP.pathL
  rw [decide_eq_false (by omega)]
  simp
theorem path_deep {s : ByteArray} (h1 : 16 ≤ s.data.toList.count 47) : NP.pathL s.data.toList = false := by
  unfold NP.pathL
  rw [decide_eq_false (p := s.data.toList.count 47 < 16) (by omega)]
  simp
set_option maxHeartbeats 800000 in
theorem path_any (s : ByteArray) (w : World) (he : Env w) (hs : s.size ≤ maxLen) :
    Calls Tryz.prog 35 #[.string s] w fun e w' => e = .returned (.bool (NP.pathL s.data.toList)) ∧ Below w.heap.size w w' := by
  unfold maxLen at hs
  have He := Lib.hid he
  clear he
  by_cases h4 : s.size ≤ 400
  · have hz : ¬ (400 : Int) < s.size := by omega
    have hd : decide ((400 : Int) < s.size) = false := decide_eq_false hz
    have cC := count_any s w
    by_cases h16 : s.data.toList.count 47 < 16
    · have Hp := Lib.hid (path_parts h4 h16)
      have h16z : ¬ (16 : Int) ≤ (s.data.toList.count 47 : Nat) := by omega
      have cS := split_any s w He.out h4
      generalize s.data.toList.count 47 = n at cC h16 h16z cS
      go_enter Tryz.func35, Tryz.ntmps35
      go_wp2_with fail
      refine cC.mono ?_
      rintro e w1 ⟨rfl, rfl⟩
      go_wp2_with fail
      refine cS.mono ?_
      rintro e w1 ⟨xs, rfl, hx1, hx2, hx3, hx4, hbl⟩
      have Hx := Lib.hid hx1
      clear hx1 cC cS
      have cA := all_any w.heap.size 0 xs.length xs w1 (He.out.below hbl) hx4.cells hx4.block (fun x hx => by have := hx2 x hx; unfold maxLen; omega) (by unfold maxLen; omega)
      have Hbl := Lib.hid hbl
      clear hbl hx2 hx4 hx3
      go_wp2_with fail
      refine cA.mono ?_
      rintro e w2 ⟨rfl, hb⟩
      have Hb := Lib.hid (Hbl.out.trans (hb.mono Hbl.out.size))
      clear hb cA
      go_wp2
      go_ret
      exact ⟨by rw [Hp.out, ← Hx.out]; rfl, Hb.out⟩
    · have Hp := Lib.hid (path_deep (s := s) (by omega))
      have h16z : (16 : Int) ≤ (s.data.toList.count 47 : Nat) := by omega
      generalize s.data.toList.count 47 = n at cC h16 h16z
      go_enter Tryz.func35, Tryz.ntmps35
      go_wp2_with fail
      refine cC.mono ?_
      rintro e w1 ⟨rfl, rfl⟩
      go_wp2
      go_ret
      exact ⟨by rw [Hp.out]; rfl, Below.refl _ _⟩
  · have Hp := Lib.hid (path_long (s := s) (by omega))
    have hz : (400 : Int) < s.size := by omega
    go_enter Tryz.func35, Tryz.ntmps35
    go_wp2
    go_ret
    exact ⟨by rw [Hp.out]; rfl, Below.refl _ _⟩
end NF
end Go.Proofs.YtmpmmebmhffaeaaGreatDoor
end
