/- strings.ContainsRune at the four runes that are more than themselves in a pattern, for every rune. -/
import Derived.Test.YtdnncacplnfllaaDoorNameAny
namespace Go.Proofs.YtdnncacplnfllaaDoor
open Go.RowKit Go.Lib
namespace GS
def sp4 : ByteArray := ⟨#[42, 63, 91, 92]⟩
theorem index_hi : ∀ (l : List UInt8) (c : UInt8), (∀ b ∈ l, b.toNat < 128) → 128 ≤ c.toNat → Lib.indexByte l c = -1
  | [], _, _, _ => rfl
  | b :: l, c, h, hc => by
    have hb : (b == c) = false := by
      rw [beq_eq_false_iff_ne]
      intro e
      have := h b (by simp)
      rw [e] at this
      omega
    have ih := index_hi l c (fun x hx => h x (by simp [hx])) hc
    unfold Lib.indexByte
    rw [hb, ih]
    rfl
theorem idx_hi (s : ByteArray) (c : UInt8) (w : World) (hs : ∀ b ∈ s.data.toList, b.toNat < 128) (hc : 128 ≤ c.toNat) :
    Calls Tryd.prog 62 #[.string s, .int .u8 (c.toNat : Nat)] w fun e w' => e = .returned (.int .i64 (-1)) ∧ w' = w := by
  have h := Tryd.strings_IndexByte s (c.toNat : Nat) w
  rw [show (((c.toNat : Nat) : Int).toNat.toUInt8) = c from by simp, index_hi _ _ hs hc] at h
  exact h
theorem idx_hi2 (c : UInt8) (w : World) (hc : 128 ≤ c.toNat) : Calls Tryd.prog 62 #[.string ⟨#[91, 92]⟩, .int .u8 (c.toNat : Nat)] w fun e w' => e = .returned (.int .i64 (-1)) ∧ w' = w := idx_hi _ c w (by decide) hc
theorem idx_hi3 (c : UInt8) (w : World) (hc : 128 ≤ c.toNat) : Calls Tryd.prog 62 #[.string ⟨#[92]⟩, .int .u8 (c.toNat : Nat)] w fun e w' => e = .returned (.int .i64 (-1)) ∧ w' = w := idx_hi _ c w (by decide) hc
theorem idx_hi4 (c : UInt8) (w : World) (hc : 128 ≤ c.toNat) : Calls Tryd.prog 62 #[.string ByteArray.empty, .int .u8 (c.toNat : Nat)] w fun e w' => e = .returned (.int .i64 (-1)) ∧ w' = w := idx_hi _ c w (by decide) hc

set_option maxRecDepth 100000 in
set_option maxHeartbeats 800000 in
theorem rune_err (w : World) :
    Calls Tryd.prog 49 #[.string sp4, .int .i32 65533] w (NA.End1 w) := by
  have hsz : sp4.size = 4 := rfl
  go_enter Tryd.func49, Tryd.ntmps49
  go_wp2
  go_loopg [5, 6] 4 (fun g _ _ wx => ∃ i : Nat, i + g = 4 ∧ wx = w.iter sp4 i)
  case atStart => exact ⟨0, by omega, rfl⟩
  case round =>
    obtain ⟨i, hig, rfl⟩ := hrel
    match gk, hig with
    | 0, hig =>
      obtain rfl : i = 4 := by omega
      have hnx := run_next_end (P := Tryd.prog) w sp4 4
      go_wp2
      go_ret
      exact ⟨rfl, (Below.refl _ _).alloc (Nat.le_refl _) _⟩
    | 1, hig =>
      obtain rfl : i = 3 := by omega
      have hnx := fun ty => run_next_ascii (P := Tryd.prog) w sp4 3 ty (by decide) (by decide)
      go_wp2
      go_roundg 0
      case measure => omega
      case rel => exact ⟨4, by omega, rfl⟩
    | 2, hig =>
      obtain rfl : i = 2 := by omega
      have hnx := fun ty => run_next_ascii (P := Tryd.prog) w sp4 2 ty (by decide) (by decide)
      go_wp2
      go_roundg 1
      case measure => omega
      case rel => exact ⟨3, by omega, rfl⟩
    | 3, hig =>
      obtain rfl : i = 1 := by omega
      have hnx := fun ty => run_next_ascii (P := Tryd.prog) w sp4 1 ty (by decide) (by decide)
      go_wp2
      go_roundg 2
      case measure => omega
      case rel => exact ⟨2, by omega, rfl⟩
    | 4, hig =>
      obtain rfl : i = 0 := by omega
      have hnx := fun ty => run_next_ascii (P := Tryd.prog) w sp4 0 ty (by decide) (by decide)
      go_wp2
      go_roundg 3
      case measure => omega
      case rel => exact ⟨1, by omega, rfl⟩
theorem encode_2 (r : Int) (h0 : 128 ≤ r) (h1 : r < 2048) (hv : Lib.validRune r = true) : ∃ x y : UInt8, Utf8.encode r = ⟨#[x, y]⟩ ∧ 128 ≤ y.toNat := by
  unfold Utf8.encode
  unfold Lib.validRune at hv
  have hval : Utf8.valid r = true := by
    unfold Utf8.valid
    simp only [decide_eq_true_eq, Bool.or_eq_true, Bool.and_eq_true] at hv ⊢
    omega
  simp only [hval, if_true]
  rw [if_neg (by omega), if_pos (by omega)]
  refine ⟨_, _, rfl, ?_⟩
  simp
  omega
set_option maxRecDepth 100000 in
set_option maxHeartbeats 800000 in
theorem rune_2 (r : Int) (w : World) (h0 : 128 ≤ r) (h1 : r < 2048) (h2 : r ≠ 65533) (hv : Lib.validRune r = true) :
    Calls Tryd.prog 49 #[.string sp4, .int .i32 r] w fun e w' => e = .returned (.int .i64 (-1)) ∧ ∃ n, w' = w.drewN n := by
  have hb : (r == 65533) = false := by simpa using h2
  have h0' : decide (r < 128) = false := by simp; omega
  obtain ⟨x, y, ht, hy⟩ := encode_2 r h0 h1 hv
  have hne : (((63 : Int)) != ((y.toNat : Nat) : Int)) = true := by
    rw [bne_iff_ne]
    omega
  clear h2
  go_enter Tryd.func49, Tryd.ntmps49
  go_wp2_with fail
  refine (Tryd.utf8_ValidRune _ _).mono ?_
  rintro e w' ⟨rfl, rfl⟩
  rw [hv]
  clear hv
  go_wp2
  go_step3
  go_wp2
  go_loopg [9] 1 (fun _ i wx => i = .int .i64 1 ∧ wx = w')
  case atStart => exact ⟨rfl, rfl⟩
  case round =>
    obtain ⟨rfl, rfl⟩ := hrel
    unfold sp4
    clear ht
    have hd : ((((⟨#[42, 63, 91, 92]⟩ : ByteArray)[1]'(by decide)).toNat : Int) != (((⟨#[x, y]⟩ : ByteArray)[1]'(by show 1 < 2; omega)).toNat : Int)) = true := hne
    clear hne
    go_wp2
    go_step3
    go_wp2
    go_quiet (fail)
    rename_i nq
    go_wp2_with fail
    generalize hw2 : wr.drewN nq = w2
    have Hw2 := Lib.hid hw2
    clear hw2
    go_quiet ((go_at_call 62; exact Calls.quiet_of_same (idx_hi2 y _ hy)))
    go_wp2
    rw [Exit.noGoto_ret]
    go_wp2
    rw [Exit.noGoto_ret]
    go_ret
    refine ⟨rfl, ?_⟩
    rw [← Hw2.out, World.drewN_drewN]
    exact ⟨_, rfl⟩
theorem encode_3 (r : Int) (h0 : 2048 ≤ r) (h1 : r < 65536) (hv : Lib.validRune r = true) : ∃ x y z : UInt8, Utf8.encode r = ⟨#[x, y, z]⟩ ∧ 128 ≤ z.toNat := by
  unfold Utf8.encode
  unfold Lib.validRune at hv
  have hval : Utf8.valid r = true := by
    unfold Utf8.valid
    simp only [decide_eq_true_eq, Bool.or_eq_true, Bool.and_eq_true] at hv ⊢
    omega
  simp only [hval, if_true]
  rw [if_neg (by omega), if_neg (by omega), if_pos (by omega)]
  refine ⟨_, _, _, rfl, ?_⟩
  simp
  omega
set_option maxRecDepth 100000 in
set_option maxHeartbeats 800000 in
theorem rune_3 (r : Int) (w : World) (h0 : 2048 ≤ r) (h1 : r < 65536) (h2 : r ≠ 65533) (hv : Lib.validRune r = true) :
    Calls Tryd.prog 49 #[.string sp4, .int .i32 r] w fun e w' => e = .returned (.int .i64 (-1)) ∧ ∃ n, w' = w.drewN n := by
  have hb : (r == 65533) = false := by simpa using h2
  have h0' : decide (r < 128) = false := by simp; omega
  obtain ⟨x, y, z, ht, hy⟩ := encode_3 r h0 h1 hv
  have hne : (((91 : Int)) != ((z.toNat : Nat) : Int)) = true := by
    rw [bne_iff_ne]
    omega
  clear h2
  go_enter Tryd.func49, Tryd.ntmps49
  go_wp2_with fail
  refine (Tryd.utf8_ValidRune _ _).mono ?_
  rintro e w' ⟨rfl, rfl⟩
  rw [hv]
  clear hv
  go_wp2
  go_step3
  go_wp2
  go_loopg [9] 1 (fun _ i wx => i = .int .i64 2 ∧ wx = w')
  case atStart => exact ⟨rfl, rfl⟩
  case round =>
    obtain ⟨rfl, rfl⟩ := hrel
    unfold sp4
    clear ht
    have hd : ((((⟨#[42, 63, 91, 92]⟩ : ByteArray)[2]'(by decide)).toNat : Int) != (((⟨#[x, y, z]⟩ : ByteArray)[2]'(by show 2 < 3; omega)).toNat : Int)) = true := hne
    clear hne
    go_wp2
    go_step3
    go_wp2
    go_quiet (fail)
    rename_i nq
    go_wp2_with fail
    generalize hw2 : wr.drewN nq = w2
    have Hw2 := Lib.hid hw2
    clear hw2
    go_quiet ((go_at_call 62; exact Calls.quiet_of_same (idx_hi3 z _ hy)))
    go_wp2
    rw [Exit.noGoto_ret]
    go_wp2
    rw [Exit.noGoto_ret]
    go_ret
    refine ⟨rfl, ?_⟩
    rw [← Hw2.out, World.drewN_drewN]
    exact ⟨_, rfl⟩
theorem encode_4 (r : Int) (h0 : 65536 ≤ r) (h1 : r ≤ 1114111) (hv : Lib.validRune r = true) : ∃ x y z u : UInt8, Utf8.encode r = ⟨#[x, y, z, u]⟩ ∧ 128 ≤ u.toNat := by
  unfold Utf8.encode
  unfold Lib.validRune at hv
  have hval : Utf8.valid r = true := by
    unfold Utf8.valid
    simp only [decide_eq_true_eq, Bool.or_eq_true, Bool.and_eq_true] at hv ⊢
    omega
  simp only [hval, if_true]
  rw [if_neg (by omega), if_neg (by omega), if_neg (by omega)]
  refine ⟨_, _, _, _, rfl, ?_⟩
  simp
  omega
set_option maxRecDepth 100000 in
set_option maxHeartbeats 800000 in
theorem rune_4 (r : Int) (w : World) (h0 : 65536 ≤ r) (h1 : r ≤ 1114111) (h2 : r ≠ 65533) (hv : Lib.validRune r = true) :
    Calls Tryd.prog 49 #[.string sp4, .int .i32 r] w fun e w' => e = .returned (.int .i64 (-1)) ∧ ∃ n, w' = w.drewN n := by
  have hb : (r == 65533) = false := by simpa using h2
  have h0' : decide (r < 128) = false := by simp; omega
  obtain ⟨x, y, z, u, ht, hy⟩ := encode_4 r h0 h1 hv
  have hne : (((92 : Int)) != ((u.toNat : Nat) : Int)) = true := by
    rw [bne_iff_ne]
    omega
  clear h2
  go_enter Tryd.func49, Tryd.ntmps49
  go_wp2_with fail
  refine (Tryd.utf8_ValidRune _ _).mono ?_
  rintro e w' ⟨rfl, rfl⟩
  rw [hv]
  clear hv
  go_wp2
  go_step3
  go_wp2
  go_loopg [9] 1 (fun _ i wx => i = .int .i64 3 ∧ wx = w')
  case atStart => exact ⟨rfl, rfl⟩
  case round =>
    obtain ⟨rfl, rfl⟩ := hrel
    unfold sp4
    clear ht
    have hd : ((((⟨#[42, 63, 91, 92]⟩ : ByteArray)[3]'(by decide)).toNat : Int) != (((⟨#[x, y, z, u]⟩ : ByteArray)[3]'(by show 3 < 4; omega)).toNat : Int)) = true := hne
    clear hne
    go_wp2
    go_step3
    go_wp2
    go_quiet (fail)
    rename_i nq
    go_wp2_with fail
    generalize hw2 : wr.drewN nq = w2
    have Hw2 := Lib.hid hw2
    clear hw2
    go_quiet ((go_at_call 62; exact Calls.quiet_of_same (idx_hi4 u _ hy)))
    go_wp2
    rw [Exit.noGoto_ret]
    go_wp2
    rw [Exit.noGoto_ret]
    go_ret
    refine ⟨rfl, ?_⟩
    rw [← Hw2.out, World.drewN_drewN]
    exact ⟨_, rfl⟩
theorem rune_none (r : Int) (w : World) (h0 : 128 ≤ r) (hv : Lib.validRune r = true) :
    Calls Tryd.prog 49 #[.string sp4, .int .i32 r] w (NA.End1 w) := by
  have h1 : r ≤ 1114111 := by
    unfold Lib.validRune at hv
    simp only [decide_eq_true_eq, Bool.or_eq_true, Bool.and_eq_true] at hv
    omega
  by_cases h2 : r = 65533
  · subst h2; exact rune_err w
  · by_cases h3 : r < 2048
    · refine (rune_2 r w h0 h3 h2 hv).mono ?_
      rintro e w' ⟨rfl, n, rfl⟩
      exact ⟨rfl, NA.below_drewN (Below.refl _ _) n⟩
    · by_cases h4 : r < 65536
      · refine (rune_3 r w (by omega) h4 h2 hv).mono ?_
        rintro e w' ⟨rfl, n, rfl⟩
        exact ⟨rfl, NA.below_drewN (Below.refl _ _) n⟩
      · refine (rune_4 r w (by omega) h1 h2 hv).mono ?_
        rintro e w' ⟨rfl, n, rfl⟩
        exact ⟨rfl, NA.below_drewN (Below.refl _ _) n⟩
def special (r : Int) : Bool := decide (r = 42 ∨ r = 63 ∨ r = 91 ∨ r = 92)
theorem special_any (r : Int) (w : World) (h0 : 0 ≤ r) (hv : Lib.validRune r = true) :
    Calls Tryd.prog 28 #[.string sp4, .int .i32 r] w fun e w' => e = .returned (.bool (special r)) ∧ Below w.heap.size w w' := by
  by_cases h1 : r < 128
  · refine (Tryd.strings_ContainsRune_ascii sp4 r w h0 h1).mono ?_
    rintro e w' ⟨rfl, rfl⟩
    refine ⟨?_, Below.refl _ _⟩
    have key : ∀ k : Nat, k < 128 → decide ((0 : Int) ≤ Lib.indexByte sp4.data.toList k.toUInt8) = special (k : Int) := by decide
    have h := key r.toNat (by omega)
    rw [Int.toNat_of_nonneg h0] at h
    rw [h]
  · have cR := rune_none r w (by omega) hv
    have hs : special r = false := by unfold special; simp; omega
    rw [hs]
    go_enter Tryd.func28, Tryd.ntmps28
    go_wp2_with fail
    refine cR.mono ?_
    rintro e w' ⟨rfl, hb⟩
    have Hb := Lib.hid hb
    clear hb cR
    go_wp2_with fail
    go_ret
    exact ⟨rfl, Hb.out⟩
end GS
end Go.Proofs.YtdnncacplnfllaaDoor
