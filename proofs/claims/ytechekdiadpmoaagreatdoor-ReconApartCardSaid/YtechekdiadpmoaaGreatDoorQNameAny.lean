/- strings.IndexRune at the two bytes that no name may hold, for a rune beyond ASCII; strings.ContainsAny at these two bytes for every short text. -/
import Derived.Test.YtechekdiadpmoaaGreatDoorQBase
import Derived.Test.YtechekdiadpmoaaGreatDoorShelf
import Derived.WalkKit
import Derived.WalkMore
import Derived.IntWalk
import Derived.Below
import Derived.Laws.Cover4
import Derived.Lib.OthersKept
import Derived.Deep.LoopGhost
import Derived.Deep.QuietTactic
import Derived.BigQuiet
import Derived.Lib.Hide
set_option linter.all false
set_option maxRecDepth 100000
set_option maxHeartbeats 25600000
namespace Go.Proofs.YtechekdiadpmoaaGreatDoor
open Go.RowKit Go.Lib
namespace NA
def slz : ByteArray := ⟨#[47, 0]⟩

theorem encode_big (r : Int) (h0 : 2048 ≤ r) (h1 : r ≤ 1114111) (hv : Lib.validRune r = true) : 3 ≤ (Utf8.encode r).size := by
  unfold Utf8.encode
  unfold Lib.validRune at hv
  have hval : Utf8.valid r = true := by
    unfold Utf8.valid
    simp only [decide_eq_true_eq, Bool.or_eq_true, Bool.and_eq_true] at hv ⊢
    omega
  simp only [hval, if_true]
  rw [if_neg (by omega), if_neg (by omega)]
  split <;> simp [ByteArray.size]
theorem idx_empty (c : Int) (w : World) : Calls Tryz.prog 131 #[.string ByteArray.empty, .int .u8 c] w fun e w' => e = .returned (.int .i64 (-1)) ∧ w' = w := Tryz.strings_IndexByte _ _ _
def End1 (w : World) (e : Ending) (w' : World) : Prop := e = .returned (.int .i64 (-1)) ∧ Below w.heap.size w w'

set_option maxRecDepth 100000 in
set_option maxHeartbeats 800000 in
theorem rune_err (w : World) :
    Calls Tryz.prog 126 #[.string slz, .int .i32 65533] w (End1 w) := by
  have hsz : slz.size = 2 := rfl
  go_enter Tryz.func126, Tryz.ntmps126
  go_wp2
  go_loopg [5, 6] 2 (fun g _ _ wx => ∃ i : Nat, i + g = 2 ∧ wx = w.iter slz i)
  case atStart => exact ⟨0, by omega, rfl⟩
  case round =>
    obtain ⟨i, hig, rfl⟩ := hrel
    match gk, hig with
    | 0, hig =>
      obtain rfl : i = 2 := by omega
      have hnx := run_next_end (P := Tryz.prog) w slz 2
      go_wp2
      go_ret
      exact ⟨rfl, (Below.refl _ _).alloc (Nat.le_refl _) _⟩
    | 1, hig =>
      obtain rfl : i = 1 := by omega
      have hnx := fun ty => run_next_ascii (P := Tryz.prog) w slz 1 ty (by decide) (by decide)
      go_wp2
      go_roundg 0
      case measure => omega
      case rel => exact ⟨2, by omega, rfl⟩
    | 2, hig =>
      obtain rfl : i = 0 := by omega
      have hnx := fun ty => run_next_ascii (P := Tryz.prog) w slz 0 ty (by decide) (by decide)
      go_wp2
      go_roundg 1
      case measure => omega
      case rel => exact ⟨1, by omega, rfl⟩
set_option maxRecDepth 100000 in
set_option maxHeartbeats 800000 in
theorem rune_big (r : Int) (w : World) (h0 : 2048 ≤ r) (h1 : r ≤ 1114111) (h2 : r ≠ 65533) :
    Calls Tryz.prog 126 #[.string slz, .int .i32 r] w fun e w' => e = .returned (.int .i64 (-1)) ∧ w = w' := by
  have hb : (r == 65533) = false := by simpa using h2
  have h0' : decide (r < 128) = false := by simp; omega
  clear h2
  go_enter Tryz.func126, Tryz.ntmps126
  go_wp2_with fail
  refine (Tryz.utf8_ValidRune _ _).mono ?_
  rintro e w' ⟨rfl, rfl⟩
  cases hv : Lib.validRune r
  · go_wp2
    go_ret
    exact ⟨rfl, rfl⟩
  · have hsz : slz.size = 2 := rfl
    obtain ⟨t, ht⟩ : ∃ t, Utf8.encode r = t := ⟨_, rfl⟩
    have h3 : 3 ≤ t.size := by rw [← ht]; exact encode_big r h0 h1 hv
    have h4 : t.size ≤ 4 := by rw [← ht]; exact encode_size_le r
    clear hv
    go_wp2
    go_step3
    go_wp2
    go_loopg [9] 1 (fun _ i wx => i = .int .i64 (t.size - 1) ∧ wx = w')
    case atStart => exact ⟨rfl, rfl⟩
    case round =>
      obtain ⟨rfl, rfl⟩ := hrel
      go_wp2
      try rw [Exit.noGoto_ret]
      go_ret
      exact ⟨rfl, rfl⟩
theorem encode_two (r : Int) (h0 : 128 ≤ r) (h1 : r < 2048) : ∃ x y : UInt8, Utf8.encode r = ⟨#[x, y]⟩ ∧ y ≠ 0 := by
  unfold Utf8.encode
  have hval : Utf8.valid r = true := by
    unfold Utf8.valid
    simp only [decide_eq_true_eq, Bool.or_eq_true, Bool.and_eq_true]
    omega
  simp only [hval, if_true]
  rw [if_neg (by omega), if_pos (by omega)]
  refine ⟨_, _, rfl, ?_⟩
  intro h
  have := congrArg UInt8.toNat h
  simp at this
  omega
set_option maxRecDepth 100000 in
set_option maxHeartbeats 800000 in
theorem rune_two (r : Int) (w : World) (h0 : 128 ≤ r) (h1 : r < 2048) :
    Calls Tryz.prog 126 #[.string slz, .int .i32 r] w fun e w' => e = .returned (.int .i64 (-1)) ∧ ∃ n, w' = w.drewN n := by
  have hb : (r == 65533) = false := by simp; omega
  have h0' : decide (r < 128) = false := by simp; omega
  obtain ⟨x, y, ht, hy⟩ := encode_two r h0 h1
  have hne : (((0 : Int)) != ((y.toNat : Nat) : Int)) = true := by
    rw [bne_iff_ne]
    intro e
    exact hy (UInt8.toNat_inj.1 (by show y.toNat = 0; omega))
  clear hy
  go_enter Tryz.func126, Tryz.ntmps126
  go_wp2_with fail
  refine (Tryz.utf8_ValidRune _ _).mono ?_
  rintro e w' ⟨rfl, rfl⟩
  have hv : Lib.validRune r = true := by unfold Lib.validRune; simp; omega
  rw [hv]
  clear hv
  go_wp2
  go_step3
  go_wp2
  go_loopg [9] 1 (fun _ i wx => i = .int .i64 1 ∧ wx = w')
  case atStart => exact ⟨rfl, rfl⟩
  case round =>
    obtain ⟨rfl, rfl⟩ := hrel
    unfold slz
    clear ht
    have hd : ((((⟨#[47, 0]⟩ : ByteArray)[1]'(by decide)).toNat : Int) != (((⟨#[x, y]⟩ : ByteArray)[1]'(by show 1 < 2; omega)).toNat : Int)) = true := hne
    clear hne
    go_wp2
    go_step3
    go_wp2
    go_quiet (fail)
    rename_i nq
    go_wp2_with fail
    generalize hw2 : wr.drewN nq = w2
    have Hw2 := Lib.hid hw2
    clear hw2
    go_quiet ((go_at_call 131; exact Calls.quiet_of_same (idx_empty _ _)))
    go_wp2
    rw [Exit.noGoto_ret]
    go_wp2
    rw [Exit.noGoto_ret]
    go_ret
    refine ⟨rfl, ?_⟩
    rw [← Hw2.out, World.drewN_drewN]
    exact ⟨_, rfl⟩
theorem below_drewN {B : Nat} {a w : World} (h : Below B a w) (n : Nat) : Below B a (w.drewN n) := ⟨h.os, h.tape, h.output, h.size, h.block⟩

/-- A rune beyond ASCII is neither of the two bytes. -/
theorem rune_none (r : Int) (w : World) (h0 : 128 ≤ r) (h1 : r ≤ 1114111) :
    Calls Tryz.prog 126 #[.string slz, .int .i32 r] w (End1 w) := by
  by_cases h2 : r = 65533
  · subst h2; exact rune_err w
  · by_cases h3 : r < 2048
    · refine (rune_two r w h0 h3).mono ?_
      rintro e w' ⟨rfl, n, rfl⟩
      exact ⟨rfl, below_drewN (Below.refl _ _) n⟩
    · refine (rune_big r w (by omega) h1 h2).mono ?_
      rintro e w' ⟨rfl, rfl⟩
      exact ⟨rfl, Below.refl _ _⟩

/- ContainsAny of the two bytes, for every text of at most 64 bytes -/
theorem high_of (x : Nat) (h : x / 64 = 2) : 128 ≤ x := by omega
theorem decode_high (s : ByteArray) (pos : Nat) (h : pos < s.size) (hb : 128 ≤ (s.get! pos).toNat) :
    128 ≤ (Utf8.decode s pos).1 ∧ (Utf8.decode s pos).1 ≤ 1114111 ∧ 1 ≤ (Utf8.decode s pos).2 ∧ pos + (Utf8.decode s pos).2 ≤ s.size ∧ ∀ k, k < (Utf8.decode s pos).2 → 128 ≤ (s.get! (pos + k)).toNat := by
  have l0 := (s.get! pos).toNat_lt; have l1 := (s.get! (pos + 1)).toNat_lt; have l2 := (s.get! (pos + 2)).toNat_lt; have l3 := (s.get! (pos + 3)).toNat_lt
  have k0 : 128 ≤ (s.get! (pos + 0)).toNat := hb
  have one : ∀ k, k < 1 → 128 ≤ (s.get! (pos + k)).toNat := by
    intro k hk
    have e : k = 0 := by omega
    rw [e]
    exact k0
  unfold Utf8.decode Utf8.runeError Utf8.valid
  simp only [Nat.add_zero, Bool.and_eq_true, Bool.or_eq_true, beq_iff_eq, decide_eq_true_eq, ge_iff_le]
  rw [if_neg (by omega)]
  split
  · rename_i h1
    have k1 := high_of _ h1.2.2
    split
    · refine ⟨by simp only; omega, by simp only; omega, by simp only; omega, by simp only; omega, ?_⟩
      intro k hk
      simp only at hk
      rcases (by omega : k = 0 ∨ k = 1) with rfl | rfl <;> assumption
    · exact ⟨by simp only; omega, by simp only; omega, by simp only; omega, by simp only; omega, one⟩
  · split
    · rename_i h2
      have k1 := high_of _ h2.1.2.2
      have k2 := high_of _ h2.2.2
      split
      · refine ⟨by simp only; omega, by simp only; omega, by simp only; omega, by simp only; omega, ?_⟩
        intro k hk
        simp only at hk
        rcases (by omega : k = 0 ∨ k = 1 ∨ k = 2) with rfl | rfl | rfl <;> assumption
      · exact ⟨by simp only; omega, by simp only; omega, by simp only; omega, by simp only; omega, one⟩
    · split
      · rename_i h3
        have k1 := high_of _ h3.1.1.2.2
        have k2 := high_of _ h3.1.2.2
        have k3 := high_of _ h3.2.2
        split
        · refine ⟨by simp only; omega, by simp only; omega, by simp only; omega, by simp only; omega, ?_⟩
          intro k hk
          simp only at hk
          rcases (by omega : k = 0 ∨ k = 1 ∨ k = 2 ∨ k = 3) with rfl | rfl | rfl | rfl <;> assumption
        · exact ⟨by simp only; omega, by simp only; omega, by simp only; omega, by simp only; omega, one⟩
      · exact ⟨by simp only; omega, by simp only; omega, by simp only; omega, by simp only; omega, one⟩
theorem noAny_wide {s : ByteArray} {i : Nat} : ∀ n, (∀ k, k < n → 128 ≤ (s.get! (i + k)).toNat) → i + n ≤ s.size → Lib.NoAny s.data.toList [47, 0] i → Lib.NoAny s.data.toList [47, 0] (i + n)
  | 0, _, _, h => h
  | n + 1, hk, hn, h => by
    have h1 := noAny_wide n (fun k hk' => hk k (by omega)) (by omega) h
    have hx := hk n (by omega)
    refine h1.succ (x := s.get! (i + n)) ?_ ?_
    · show s.data.toList[i + n]? = _
      rw [Lib.data_getElem? s (i + n) (by omega), Utf8W.get!_of_lt s (i + n) (by omega)]
    · have e1 : s.get! (i + n) ≠ 47 := by intro e; rw [e] at hx; simp at hx
      have e2 : s.get! (i + n) ≠ 0 := by intro e; rw [e] at hx; simp at hx
      simp [e1, e2]
def IdxPost (s : ByteArray) (w : World) (e : Ending) (w' : World) : Prop := e = .returned (.int .i64 (Lib.indexAny s.data.toList [47, 0])) ∧ Below w.heap.size w w'
theorem ascii_idx (x : UInt8) (w : World) (hx : x.toNat < 128) :
    Calls Tryz.prog 126 #[.string slz, .int .i32 x.toNat] w fun e w' => e = .returned (.int .i64 (Lib.indexByte [47, 0] x)) ∧ w = w' := by
  refine (Tryz.strings_IndexRune_ascii slz (x.toNat : Int) w (by omega) (by omega)).mono ?_
  rintro e w' ⟨rfl, rfl⟩
  exact ⟨by simp [slz], rfl⟩
set_option maxRecDepth 100000 in
set_option maxHeartbeats 1600000 in
theorem any_short (s : ByteArray) (w : World) (h8 : s.size ≤ 8) :
    Calls Tryz.prog 121 #[.string s, .string slz] w (IdxPost s w) := by
  have hemp : slz.toList.isEmpty = false := by rw [Lib.toList_data]; rfl
  have hsz : slz.size = 2 := rfl
  have h8z : decide ((8 : Int) < (s.size : Int)) = false := decide_eq_false (by omega)
  go_enter Tryz.func121, Tryz.ntmps121
  go_wp2_with (go_at_call 127; refine (Tryz.strings_shouldUseASCIISet _ _).mono ?_; rintro e w' ⟨rfl, hw⟩; rw [hw, h8z])
  go_loopg [9, 10] s.size (fun g _ _ wx => ∃ i : Nat, i ≤ s.size ∧ s.size ≤ i + g ∧ wx.heap[w.heap.size]? = some (.stringIter s i) ∧ Below w.heap.size w wx ∧ Lib.NoAny s.data.toList [47, 0] i)
  case atStart => exact ⟨0, by omega, by omega, World.iter_heap _ _ _, (Below.refl _ _).alloc (Nat.le_refl _) _, Lib.NoAny.zero _ _⟩
  case round =>
    obtain ⟨i, hi, hig, hit, hb, hno⟩ := hrel
    have HN := Lib.hid hno
    have HI := Lib.hid hit
    have HB := Lib.hid hb
    clear hno hit hb
    by_cases hlt : i < s.size
    · obtain ⟨g', rfl⟩ : ∃ g', gk = g' + 1 := ⟨gk - 1, by omega⟩
      obtain ⟨W2, hW2⟩ : ∃ W2, wr.iterAt w.heap.size s (i + (Utf8.decode s i).2) = W2 := ⟨_, rfl⟩
      have HI2 := Lib.hid (Lib.iterAt_heap wr w.heap.size s i (i + (Utf8.decode s i).2) HI.out)
      have HB2 := Lib.hid (Lib.below_iterAt HB.out (Nat.le_refl w.heap.size) s (i + (Utf8.decode s i).2))
      rw [hW2] at HI2 HB2
      have hnx : ∀ ty, (Instr.next (.pointer (some ⟨w.heap.size, 0, none⟩)) true ty).run Tryz.prog wr = .ok (.tuple #[.bool true, .int .i64 i, .int .i32 (Utf8.decode s i).1]) W2 := fun ty => by rw [← hW2]; exact Lib.run_next_any_at wr w.heap.size s i ty HI.out hlt
      clear hW2
      by_cases hasc : (s[i]'hlt).toNat < 128
      · have hdec := decode_ascii s i hlt hasc
        rw [hdec] at HI2 hnx
        simp only at HI2 hnx
        obtain ⟨x, hx⟩ : ∃ x : UInt8, s[i]'hlt = x := ⟨_, rfl⟩
        have Hxl : Hid (s.data.toList[i]? = some x) := Lib.hid (by rw [← hx]; exact Lib.data_getElem? s i hlt)
        rw [hx] at hnx hasc
        clear hx hdec
        have hcon := Lib.contains_iff_indexByte [47, 0] x
        have cR := fun W => ascii_idx x W hasc
        cases hin : ([47, 0] : List UInt8).contains x
        · rw [hin] at hcon
          have hneg : ¬ ((0 : Int) ≤ Lib.indexByte [47, 0] x) := of_decide_eq_false hcon.symm
          clear hcon
          have Hin := Lib.hid hin
          clear hin
          go_wp2_with (go_at_call 126; refine (cR _).mono ?_; rintro e w' ⟨rfl, rfl⟩)
          go_roundg g'
          case measure => omega
          case rel => exact ⟨i + 1, by omega, by omega, HI2.out, HB2.out, HN.out.succ Hxl.out Hin.out⟩
        · rw [hin] at hcon
          have hpos : (0 : Int) ≤ Lib.indexByte [47, 0] x := of_decide_eq_true hcon.symm
          clear hcon
          have Hin := Lib.hid hin
          clear hin
          go_wp2_with (go_at_call 126; refine (cR _).mono ?_; rintro e w' ⟨rfl, rfl⟩)
          go_ret
          exact ⟨by rw [Lib.indexAny_hit HN.out Hxl.out Hin.out]; rfl, HB2.out⟩
      · have hx : 128 ≤ (s.get! i).toNat := by rw [Utf8W.get!_of_lt s i hlt]; omega
        obtain ⟨d1, d2, d3, d4, d5⟩ := decode_high s i hlt hx
        have HN2 := Lib.hid (noAny_wide _ d5 d4 HN.out)
        generalize (Utf8.decode s i).1 = r at hnx d1 d2
        generalize (Utf8.decode s i).2 = k at hnx d3 d4 d5 HI2 HN2
        clear d5 hx hasc
        have cR := fun W => rune_none (r : Int) W (by omega) (by omega)
        go_wp2_with fail
        refine (cR _).mono ?_
        rintro e w' ⟨rfl, hbe⟩
        have HB3 := Lib.hid (HB2.out.trans (hbe.mono HB2.out.size))
        have HI3 : Hid (w'.heap[w.heap.size]? = some (.stringIter s (i + k))) := Lib.hid (by
          have h1 := HI2.out
          have hlt2 : w.heap.size < W2.heap.size := (Array.getElem?_eq_some_iff.1 h1).1
          rw [hbe.block _ hlt2]; exact h1)
        clear hbe
        go_wp2
        go_roundg g'
        case measure => omega
        case rel => exact ⟨i + k, by omega, by omega, HI3.out, HB3.out, HN2.out⟩
    · obtain rfl : i = s.size := by omega
      have hnx := fun ty => Lib.run_next_end_at (P := Tryz.prog) wr w.heap.size s s.size ty HI.out hlt
      go_wp2
      go_ret
      exact ⟨by rw [Lib.indexAny_none (by rw [← Lib.size_eq]; exact HN.out)]; rfl, HB.out⟩
end NA
end Go.Proofs.YtechekdiadpmoaaGreatDoor
