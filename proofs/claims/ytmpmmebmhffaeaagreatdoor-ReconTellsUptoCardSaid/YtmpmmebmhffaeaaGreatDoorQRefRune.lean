/- The document's answer for layer 1: how many bytes the rune at a place has: the contract of the reference's rune_. -/
import Derived.Test.YtmpmmebmhffaeaaGreatDoorChecked
import Derived.WalkKit
import Derived.WalkMore
import Derived.IntWalk
import Derived.Below
import Derived.Deep.LoopGhost
import Derived.Lib.Hide
import Derived.Lib.DecodeN
import Derived.Lib.Strings
import Derived.Lib.ValidU
import Derived.Shelf.Unicode.DecodeSlow
set_option linter.all false
set_option maxRecDepth 100000
set_option maxHeartbeats 25600000
namespace Go.Proofs.YtmpmmebmhffaeaaGreatDoor
open Go.RowKit Go.Lib
namespace RR

def cont (b : Nat) : Prop := 128 ≤ b ∧ b ≤ 191
instance (b : Nat) : Decidable (cont b) := by unfold cont; infer_instance
def runeN (n b0 b1 b2 b3 : Nat) : Nat :=
  if b0 < 128 then 1
  else if 194 ≤ b0 ∧ b0 ≤ 223 then (if 2 ≤ n ∧ cont b1 then 2 else 0)
  else if 224 ≤ b0 ∧ b0 ≤ 239 then (if 3 ≤ n ∧ cont b1 ∧ cont b2 ∧ ¬ (((b0 - 224) * 64 + b1 - 128) * 64 + b2 - 128 < 2048 ∨ 55296 ≤ ((b0 - 224) * 64 + b1 - 128) * 64 + b2 - 128 ∧ ((b0 - 224) * 64 + b1 - 128) * 64 + b2 - 128 ≤ 57343) then 3 else 0)
  else if 240 ≤ b0 ∧ b0 ≤ 244 then (if 4 ≤ n ∧ cont b1 ∧ cont b2 ∧ cont b3 ∧ ¬ ((((b0 - 240) * 64 + b1 - 128) * 64 + b2 - 128) * 64 + b3 - 128 < 65536 ∨ 1114111 < (((b0 - 240) * 64 + b1 - 128) * 64 + b2 - 128) * 64 + b3 - 128) then 4 else 0)
  else 0
set_option maxHeartbeats 4000000 in
theorem runeN_eq (n b0 b1 b2 b3 : Nat) (h0 : b0 < 256) (h1 : b1 < 256) (h2 : b2 < 256) (h3 : b3 < 256) :
    runeN n b0 b1 b2 b3 = if (decodeN n b0 b1 b2 b3).1 = 65533 ∧ (decodeN n b0 b1 b2 b3).2 = 1 then 0 else (decodeN n b0 b1 b2 b3).2 := by
  unfold runeN decodeN cont
  by_cases a0 : b0 < 128
  · simp only [if_pos a0]; rw [if_neg (by omega)]
  · simp only [if_neg a0]
    by_cases a1 : 194 ≤ b0 ∧ b0 ≤ 223
    · simp only [if_pos a1]
      repeat' split
      all_goals first | rfl | (exfalso; omega) | omega
    · simp only [if_neg a1]
      by_cases a2 : 224 ≤ b0 ∧ b0 ≤ 239
      · simp only [if_pos a2]
        repeat' split
        all_goals first | rfl | (exfalso; omega) | omega
      · simp only [if_neg a2]
        by_cases a3 : 240 ≤ b0 ∧ b0 ≤ 244
        · simp only [if_pos a3]
          repeat' split
          all_goals first | rfl | (exfalso; omega) | omega
        · simp only [if_neg a3]
          repeat' split
          all_goals first | rfl | (exfalso; omega) | omega
def Rune (s : ByteArray) (at' : Nat) : Nat := runeN (s.size - at') (s.get! at').toNat (s.get! (at' + 1)).toNat (s.get! (at' + 2)).toNat (s.get! (at' + 3)).toNat
def Ret (n : Nat) (w : World) (e : Ending) (w' : World) : Prop := e = .returned (.int .i64 n) ∧ w = w'
theorem get_eq (s : ByteArray) (i : Nat) (h : i < s.size) : s[i] = s.get! i := (Utf8W.get!_of_lt s i h).symm

theorem u8_lt (c : UInt8) : (c.toNat : Int) < 256 := by have := c.toNat_lt; omega
set_option maxRecDepth 100000 in
set_option maxHeartbeats 800000 in
theorem one (s : ByteArray) (i : Nat) (w : World) (hi : i < s.size) (h0 : (s.get! i).toNat < 128) :
    Calls Tryz.prog 110 #[.string s, .int .i64 i] w (Ret 1 w) := by
  have hlt : (i : Int) < s.size := by omega
  have e0 : s[i]'hi = s.get! i := get_eq s i hi
  obtain ⟨b0, hb0⟩ : ∃ b0, s.get! i = b0 := ⟨_, rfl⟩
  rw [hb0] at h0 e0
  have z1 : (b0.toNat : Int) < 128 := by omega
  clear hb0
  go_enter Tryz.func110, Tryz.ntmps110
  go_wp2
  go_ret
  exact ⟨rfl, rfl⟩
set_option maxRecDepth 100000 in
set_option maxHeartbeats 800000 in
theorem bad0 (s : ByteArray) (i : Nat) (w : World) (hi : i < s.size) (h0 : 128 ≤ (s.get! i).toNat) (h1 : (s.get! i).toNat ≤ 193) :
    Calls Tryz.prog 110 #[.string s, .int .i64 i] w (Ret 0 w) := by
  have hlt : (i : Int) < s.size := by omega
  have e0 : s[i]'hi = s.get! i := get_eq s i hi
  obtain ⟨b0, hb0⟩ : ∃ b0, s.get! i = b0 := ⟨_, rfl⟩
  rw [hb0] at h0 h1 e0
  have z0 : (128 : Int) ≤ (b0.toNat : Int) := by omega
  have z1 : (b0.toNat : Int) ≤ 193 := by omega
  clear hb0
  go_enter Tryz.func110, Tryz.ntmps110
  go_wp2
  go_ret
  exact ⟨rfl, rfl⟩
set_option maxRecDepth 100000 in
set_option maxHeartbeats 800000 in
theorem bad1 (s : ByteArray) (i : Nat) (w : World) (hi : i < s.size) (h0 : 245 ≤ (s.get! i).toNat) (h1 : (s.get! i).toNat ≤ 255) :
    Calls Tryz.prog 110 #[.string s, .int .i64 i] w (Ret 0 w) := by
  have hlt : (i : Int) < s.size := by omega
  have e0 : s[i]'hi = s.get! i := get_eq s i hi
  obtain ⟨b0, hb0⟩ : ∃ b0, s.get! i = b0 := ⟨_, rfl⟩
  rw [hb0] at h0 h1 e0
  have z0 : (245 : Int) ≤ (b0.toNat : Int) := by omega
  have z1 : (b0.toNat : Int) ≤ 255 := by omega
  clear hb0
  go_enter Tryz.func110, Tryz.ntmps110
  go_wp2
  go_ret
  exact ⟨rfl, rfl⟩
set_option maxRecDepth 100000 in
set_option maxHeartbeats 800000 in
theorem short2 (s : ByteArray) (i : Nat) (w : World) (hi : i < s.size) (hs : s.size ≤ 4611686018427387904) (hn : s.size < i + 2) (h0 : 194 ≤ (s.get! i).toNat) (h1 : (s.get! i).toNat ≤ 223) :
    Calls Tryz.prog 110 #[.string s, .int .i64 i] w (Ret 0 w) := by
  have hlt : (i : Int) < s.size := by omega
  have hlt2 : (s.size : Int) < (i : Int) + 2 := by omega
  have e0 : s[i]'hi = s.get! i := get_eq s i hi
  obtain ⟨b0, hb0⟩ : ∃ b0, s.get! i = b0 := ⟨_, rfl⟩
  rw [hb0] at h0 h1 e0
  have z0 : (194 : Int) ≤ (b0.toNat : Int) := by omega
  have z1 : (b0.toNat : Int) ≤ 223 := by omega
  clear hb0
  go_enter Tryz.func110, Tryz.ntmps110
  go_wp2
  go_ret
  exact ⟨rfl, rfl⟩
set_option maxRecDepth 100000 in
set_option maxHeartbeats 1600000 in
theorem two_bad1a (s : ByteArray) (i : Nat) (w : World) (hi : i + 2 ≤ s.size) (hs : s.size ≤ 4611686018427387904) (h0 : 194 ≤ (s.get! i).toNat) (h1 : (s.get! i).toNat ≤ 223) (c1 : (s.get! (i + 1)).toNat < 128) :
    Calls Tryz.prog 110 #[.string s, .int .i64 i] w (Ret 0 w) := by
  have hlt : (i : Int) < s.size := by omega
  have hlt2 : (i : Int) + 2 ≤ s.size := by omega
  have e0 : s[i]'(by omega) = s.get! (i) := get_eq s (i) (by omega)
  have e1 : s[i + 1]'(by omega) = s.get! (i + 1) := get_eq s (i + 1) (by omega)
  have l1 : (i : Int) + 1 < s.size := by omega
  obtain ⟨b0, hb0⟩ : ∃ b0, s.get! (i) = b0 := ⟨_, rfl⟩
  rw [hb0] at e0 h0 h1
  have u0 := u8_lt b0
  obtain ⟨b1, hb1⟩ : ∃ b1, s.get! (i + 1) = b1 := ⟨_, rfl⟩
  rw [hb1] at e1 c1
  have u1 := u8_lt b1
  have z0 : (194 : Int) ≤ (b0.toNat : Int) := by omega
  have z1 : (b0.toNat : Int) ≤ 223 := by omega
  have y1 : (b1.toNat : Int) < 128 := by omega
  clear hb0 hb1 c1 h0 h1
  go_enter Tryz.func110, Tryz.ntmps110
  go_wp2
  refine wp_loop_rounds 2 ?_
  rw [rounds_succ]
  go_wp2
  go_ret
  exact ⟨rfl, rfl⟩
set_option maxRecDepth 100000 in
set_option maxHeartbeats 1600000 in
theorem two_bad1b (s : ByteArray) (i : Nat) (w : World) (hi : i + 2 ≤ s.size) (hs : s.size ≤ 4611686018427387904) (h0 : 194 ≤ (s.get! i).toNat) (h1 : (s.get! i).toNat ≤ 223) (c1 : 191 < (s.get! (i + 1)).toNat) :
    Calls Tryz.prog 110 #[.string s, .int .i64 i] w (Ret 0 w) := by
  have hlt : (i : Int) < s.size := by omega
  have hlt2 : (i : Int) + 2 ≤ s.size := by omega
  have e0 : s[i]'(by omega) = s.get! (i) := get_eq s (i) (by omega)
  have e1 : s[i + 1]'(by omega) = s.get! (i + 1) := get_eq s (i + 1) (by omega)
  have l1 : (i : Int) + 1 < s.size := by omega
  obtain ⟨b0, hb0⟩ : ∃ b0, s.get! (i) = b0 := ⟨_, rfl⟩
  rw [hb0] at e0 h0 h1
  have u0 := u8_lt b0
  obtain ⟨b1, hb1⟩ : ∃ b1, s.get! (i + 1) = b1 := ⟨_, rfl⟩
  rw [hb1] at e1 c1
  have u1 := u8_lt b1
  have z0 : (194 : Int) ≤ (b0.toNat : Int) := by omega
  have z1 : (b0.toNat : Int) ≤ 223 := by omega
  have y1 : 191 < (b1.toNat : Int) := by omega
  clear hb0 hb1 c1 h0 h1
  go_enter Tryz.func110, Tryz.ntmps110
  go_wp2
  refine wp_loop_rounds 2 ?_
  rw [rounds_succ]
  go_wp2
  go_ret
  exact ⟨rfl, rfl⟩
set_option maxRecDepth 100000 in
set_option maxHeartbeats 1600000 in
theorem two_ok (s : ByteArray) (i : Nat) (w : World) (hi : i + 2 ≤ s.size) (hs : s.size ≤ 4611686018427387904) (h0 : 194 ≤ (s.get! i).toNat) (h1 : (s.get! i).toNat ≤ 223) (c1 : cont (s.get! (i + 1)).toNat) :
    Calls Tryz.prog 110 #[.string s, .int .i64 i] w (Ret 2 w) := by
  have hlt : (i : Int) < s.size := by omega
  have hlt2 : (i : Int) + 2 ≤ s.size := by omega
  have e0 : s[i]'(by omega) = s.get! (i) := get_eq s (i) (by omega)
  have e1 : s[i + 1]'(by omega) = s.get! (i + 1) := get_eq s (i + 1) (by omega)
  have l1 : (i : Int) + 1 < s.size := by omega
  obtain ⟨b0, hb0⟩ : ∃ b0, s.get! (i) = b0 := ⟨_, rfl⟩
  rw [hb0] at e0 h0 h1
  have u0 := u8_lt b0
  obtain ⟨b1, hb1⟩ : ∃ b1, s.get! (i + 1) = b1 := ⟨_, rfl⟩
  rw [hb1] at e1 c1
  have u1 := u8_lt b1
  have z0 : (194 : Int) ≤ (b0.toNat : Int) := by omega
  have z1 : (b0.toNat : Int) ≤ 223 := by omega
  unfold cont at c1
  have y1a : 128 ≤ (b1.toNat : Int) := by omega
  have y1b : (b1.toNat : Int) ≤ 191 := by omega
  clear hb0 hb1 c1 h0 h1
  go_enter Tryz.func110, Tryz.ntmps110
  go_wp2
  refine wp_loop_rounds 2 ?_
  rw [rounds_succ]
  go_wp2
  rw [rounds_succ]
  go_wp2
  go_ret
  exact ⟨rfl, rfl⟩
set_option maxRecDepth 100000 in
set_option maxHeartbeats 800000 in
theorem short3 (s : ByteArray) (i : Nat) (w : World) (hi : i < s.size) (hs : s.size ≤ 4611686018427387904) (hn : s.size < i + 3) (h0 : 224 ≤ (s.get! i).toNat) (h1 : (s.get! i).toNat ≤ 239) :
    Calls Tryz.prog 110 #[.string s, .int .i64 i] w (Ret 0 w) := by
  have hlt : (i : Int) < s.size := by omega
  have hlt2 : (s.size : Int) < (i : Int) + 3 := by omega
  have e0 : s[i]'hi = s.get! i := get_eq s i hi
  obtain ⟨b0, hb0⟩ : ∃ b0, s.get! i = b0 := ⟨_, rfl⟩
  rw [hb0] at h0 h1 e0
  have z0 : (224 : Int) ≤ (b0.toNat : Int) := by omega
  have z1 : (b0.toNat : Int) ≤ 239 := by omega
  clear hb0
  go_enter Tryz.func110, Tryz.ntmps110
  go_wp2
  go_ret
  exact ⟨rfl, rfl⟩
set_option maxRecDepth 100000 in
set_option maxHeartbeats 1600000 in
theorem three_bad1a (s : ByteArray) (i : Nat) (w : World) (hi : i + 3 ≤ s.size) (hs : s.size ≤ 4611686018427387904) (h0 : 224 ≤ (s.get! i).toNat) (h1 : (s.get! i).toNat ≤ 239) (c1 : (s.get! (i + 1)).toNat < 128) :
    Calls Tryz.prog 110 #[.string s, .int .i64 i] w (Ret 0 w) := by
  have hlt : (i : Int) < s.size := by omega
  have hlt2 : (i : Int) + 3 ≤ s.size := by omega
  have e0 : s[i]'(by omega) = s.get! (i) := get_eq s (i) (by omega)
  have e1 : s[i + 1]'(by omega) = s.get! (i + 1) := get_eq s (i + 1) (by omega)
  have l1 : (i : Int) + 1 < s.size := by omega
  obtain ⟨b0, hb0⟩ : ∃ b0, s.get! (i) = b0 := ⟨_, rfl⟩
  rw [hb0] at e0 h0 h1
  have u0 := u8_lt b0
  obtain ⟨b1, hb1⟩ : ∃ b1, s.get! (i + 1) = b1 := ⟨_, rfl⟩
  rw [hb1] at e1 c1
  have u1 := u8_lt b1
  have z0 : (224 : Int) ≤ (b0.toNat : Int) := by omega
  have z1 : (b0.toNat : Int) ≤ 239 := by omega
  have y1 : (b1.toNat : Int) < 128 := by omega
  clear hb0 hb1 c1 h0 h1
  go_enter Tryz.func110, Tryz.ntmps110
  go_wp2
  refine wp_loop_rounds 2 ?_
  rw [rounds_succ]
  go_wp2
  go_ret
  exact ⟨rfl, rfl⟩
set_option maxRecDepth 100000 in
set_option maxHeartbeats 1600000 in
theorem three_bad1b (s : ByteArray) (i : Nat) (w : World) (hi : i + 3 ≤ s.size) (hs : s.size ≤ 4611686018427387904) (h0 : 224 ≤ (s.get! i).toNat) (h1 : (s.get! i).toNat ≤ 239) (c1 : 191 < (s.get! (i + 1)).toNat) :
    Calls Tryz.prog 110 #[.string s, .int .i64 i] w (Ret 0 w) := by
  have hlt : (i : Int) < s.size := by omega
  have hlt2 : (i : Int) + 3 ≤ s.size := by omega
  have e0 : s[i]'(by omega) = s.get! (i) := get_eq s (i) (by omega)
  have e1 : s[i + 1]'(by omega) = s.get! (i + 1) := get_eq s (i + 1) (by omega)
  have l1 : (i : Int) + 1 < s.size := by omega
  obtain ⟨b0, hb0⟩ : ∃ b0, s.get! (i) = b0 := ⟨_, rfl⟩
  rw [hb0] at e0 h0 h1
  have u0 := u8_lt b0
  obtain ⟨b1, hb1⟩ : ∃ b1, s.get! (i + 1) = b1 := ⟨_, rfl⟩
  rw [hb1] at e1 c1
  have u1 := u8_lt b1
  have z0 : (224 : Int) ≤ (b0.toNat : Int) := by omega
  have z1 : (b0.toNat : Int) ≤ 239 := by omega
  have y1 : 191 < (b1.toNat : Int) := by omega
  clear hb0 hb1 c1 h0 h1
  go_enter Tryz.func110, Tryz.ntmps110
  go_wp2
  refine wp_loop_rounds 2 ?_
  rw [rounds_succ]
  go_wp2
  go_ret
  exact ⟨rfl, rfl⟩
set_option maxRecDepth 100000 in
set_option maxHeartbeats 1600000 in
theorem three_bad2a (s : ByteArray) (i : Nat) (w : World) (hi : i + 3 ≤ s.size) (hs : s.size ≤ 4611686018427387904) (h0 : 224 ≤ (s.get! i).toNat) (h1 : (s.get! i).toNat ≤ 239) (c1 : cont (s.get! (i + 1)).toNat) (c2 : (s.get! (i + 2)).toNat < 128) :
    Calls Tryz.prog 110 #[.string s, .int .i64 i] w (Ret 0 w) := by
  have hlt : (i : Int) < s.size := by omega
  have hlt2 : (i : Int) + 3 ≤ s.size := by omega
  have e0 : s[i]'(by omega) = s.get! (i) := get_eq s (i) (by omega)
  have e1 : s[i + 1]'(by omega) = s.get! (i + 1) := get_eq s (i + 1) (by omega)
  have l1 : (i : Int) + 1 < s.size := by omega
  have e2 : s[i + 2]'(by omega) = s.get! (i + 2) := get_eq s (i + 2) (by omega)
  have l2 : (i : Int) + 2 < s.size := by omega
  obtain ⟨b0, hb0⟩ : ∃ b0, s.get! (i) = b0 := ⟨_, rfl⟩
  rw [hb0] at e0 h0 h1
  have u0 := u8_lt b0
  obtain ⟨b1, hb1⟩ : ∃ b1, s.get! (i + 1) = b1 := ⟨_, rfl⟩
  rw [hb1] at e1 c1
  have u1 := u8_lt b1
  obtain ⟨b2, hb2⟩ : ∃ b2, s.get! (i + 2) = b2 := ⟨_, rfl⟩
  rw [hb2] at e2 c2
  have u2 := u8_lt b2
  have z0 : (224 : Int) ≤ (b0.toNat : Int) := by omega
  have z1 : (b0.toNat : Int) ≤ 239 := by omega
  unfold cont at c1
  have y1a : 128 ≤ (b1.toNat : Int) := by omega
  have y1b : (b1.toNat : Int) ≤ 191 := by omega
  have y2 : (b2.toNat : Int) < 128 := by omega
  clear hb0 hb1 hb2 c1 c2 h0 h1
  go_enter Tryz.func110, Tryz.ntmps110
  go_wp2
  refine wp_loop_rounds 3 ?_
  rw [rounds_succ]
  go_wp2
  rw [rounds_succ]
  go_wp2
  go_ret
  exact ⟨rfl, rfl⟩
set_option maxRecDepth 100000 in
set_option maxHeartbeats 1600000 in
theorem three_bad2b (s : ByteArray) (i : Nat) (w : World) (hi : i + 3 ≤ s.size) (hs : s.size ≤ 4611686018427387904) (h0 : 224 ≤ (s.get! i).toNat) (h1 : (s.get! i).toNat ≤ 239) (c1 : cont (s.get! (i + 1)).toNat) (c2 : 191 < (s.get! (i + 2)).toNat) :
    Calls Tryz.prog 110 #[.string s, .int .i64 i] w (Ret 0 w) := by
  have hlt : (i : Int) < s.size := by omega
  have hlt2 : (i : Int) + 3 ≤ s.size := by omega
  have e0 : s[i]'(by omega) = s.get! (i) := get_eq s (i) (by omega)
  have e1 : s[i + 1]'(by omega) = s.get! (i + 1) := get_eq s (i + 1) (by omega)
  have l1 : (i : Int) + 1 < s.size := by omega
  have e2 : s[i + 2]'(by omega) = s.get! (i + 2) := get_eq s (i + 2) (by omega)
  have l2 : (i : Int) + 2 < s.size := by omega
  obtain ⟨b0, hb0⟩ : ∃ b0, s.get! (i) = b0 := ⟨_, rfl⟩
  rw [hb0] at e0 h0 h1
  have u0 := u8_lt b0
  obtain ⟨b1, hb1⟩ : ∃ b1, s.get! (i + 1) = b1 := ⟨_, rfl⟩
  rw [hb1] at e1 c1
  have u1 := u8_lt b1
  obtain ⟨b2, hb2⟩ : ∃ b2, s.get! (i + 2) = b2 := ⟨_, rfl⟩
  rw [hb2] at e2 c2
  have u2 := u8_lt b2
  have z0 : (224 : Int) ≤ (b0.toNat : Int) := by omega
  have z1 : (b0.toNat : Int) ≤ 239 := by omega
  unfold cont at c1
  have y1a : 128 ≤ (b1.toNat : Int) := by omega
  have y1b : (b1.toNat : Int) ≤ 191 := by omega
  have y2 : 191 < (b2.toNat : Int) := by omega
  clear hb0 hb1 hb2 c1 c2 h0 h1
  go_enter Tryz.func110, Tryz.ntmps110
  go_wp2
  refine wp_loop_rounds 3 ?_
  rw [rounds_succ]
  go_wp2
  rw [rounds_succ]
  go_wp2
  go_ret
  exact ⟨rfl, rfl⟩
set_option maxRecDepth 100000 in
set_option maxHeartbeats 1600000 in
theorem three_low (s : ByteArray) (i : Nat) (w : World) (hi : i + 3 ≤ s.size) (hs : s.size ≤ 4611686018427387904) (h0 : 224 ≤ (s.get! i).toNat) (h1 : (s.get! i).toNat ≤ 239) (c1 : cont (s.get! (i + 1)).toNat) (c2 : cont (s.get! (i + 2)).toNat) (cv : ((((s.get! i).toNat - 224) * 64 + (s.get! (i + 1)).toNat - 128) * 64 + (s.get! (i + 2)).toNat - 128) < 2048) :
    Calls Tryz.prog 110 #[.string s, .int .i64 i] w (Ret 0 w) := by
  have hlt : (i : Int) < s.size := by omega
  have hlt2 : (i : Int) + 3 ≤ s.size := by omega
  have e0 : s[i]'(by omega) = s.get! (i) := get_eq s (i) (by omega)
  have e1 : s[i + 1]'(by omega) = s.get! (i + 1) := get_eq s (i + 1) (by omega)
  have l1 : (i : Int) + 1 < s.size := by omega
  have e2 : s[i + 2]'(by omega) = s.get! (i + 2) := get_eq s (i + 2) (by omega)
  have l2 : (i : Int) + 2 < s.size := by omega
  obtain ⟨b0, hb0⟩ : ∃ b0, s.get! (i) = b0 := ⟨_, rfl⟩
  rw [hb0] at e0 h0 h1
  have u0 := u8_lt b0
  obtain ⟨b1, hb1⟩ : ∃ b1, s.get! (i + 1) = b1 := ⟨_, rfl⟩
  rw [hb1] at e1 c1
  have u1 := u8_lt b1
  obtain ⟨b2, hb2⟩ : ∃ b2, s.get! (i + 2) = b2 := ⟨_, rfl⟩
  rw [hb2] at e2 c2
  have u2 := u8_lt b2
  rw [hb0, hb1, hb2] at cv
  have z0 : (224 : Int) ≤ (b0.toNat : Int) := by omega
  have z1 : (b0.toNat : Int) ≤ 239 := by omega
  unfold cont at c1
  have y1a : 128 ≤ (b1.toNat : Int) := by omega
  have y1b : (b1.toNat : Int) ≤ 191 := by omega
  unfold cont at c2
  have y2a : 128 ≤ (b2.toNat : Int) := by omega
  have y2b : (b2.toNat : Int) ≤ 191 := by omega
  have q1 : (((b0.toNat : Int) - 224) * 64 + (b1.toNat : Int) - 128) * 64 + (b2.toNat : Int) - 128 < 2048 := by omega
  clear hb0 hb1 hb2 c1 c2 h0 h1 cv
  go_enter Tryz.func110, Tryz.ntmps110
  go_wp2
  refine wp_loop_rounds 3 ?_
  rw [rounds_succ]
  go_wp2
  rw [rounds_succ]
  go_wp2
  rw [rounds_succ]
  go_wp2
  go_ret
  exact ⟨rfl, rfl⟩
set_option maxRecDepth 100000 in
set_option maxHeartbeats 1600000 in
theorem three_sur (s : ByteArray) (i : Nat) (w : World) (hi : i + 3 ≤ s.size) (hs : s.size ≤ 4611686018427387904) (h0 : 224 ≤ (s.get! i).toNat) (h1 : (s.get! i).toNat ≤ 239) (c1 : cont (s.get! (i + 1)).toNat) (c2 : cont (s.get! (i + 2)).toNat) (cv : 55296 ≤ (((s.get! i).toNat - 224) * 64 + (s.get! (i + 1)).toNat - 128) * 64 + (s.get! (i + 2)).toNat - 128 ∧ (((s.get! i).toNat - 224) * 64 + (s.get! (i + 1)).toNat - 128) * 64 + (s.get! (i + 2)).toNat - 128 ≤ 57343) :
    Calls Tryz.prog 110 #[.string s, .int .i64 i] w (Ret 0 w) := by
  have hlt : (i : Int) < s.size := by omega
  have hlt2 : (i : Int) + 3 ≤ s.size := by omega
  have e0 : s[i]'(by omega) = s.get! (i) := get_eq s (i) (by omega)
  have e1 : s[i + 1]'(by omega) = s.get! (i + 1) := get_eq s (i + 1) (by omega)
  have l1 : (i : Int) + 1 < s.size := by omega
  have e2 : s[i + 2]'(by omega) = s.get! (i + 2) := get_eq s (i + 2) (by omega)
  have l2 : (i : Int) + 2 < s.size := by omega
  obtain ⟨b0, hb0⟩ : ∃ b0, s.get! (i) = b0 := ⟨_, rfl⟩
  rw [hb0] at e0 h0 h1
  have u0 := u8_lt b0
  obtain ⟨b1, hb1⟩ : ∃ b1, s.get! (i + 1) = b1 := ⟨_, rfl⟩
  rw [hb1] at e1 c1
  have u1 := u8_lt b1
  obtain ⟨b2, hb2⟩ : ∃ b2, s.get! (i + 2) = b2 := ⟨_, rfl⟩
  rw [hb2] at e2 c2
  have u2 := u8_lt b2
  rw [hb0, hb1, hb2] at cv
  have z0 : (224 : Int) ≤ (b0.toNat : Int) := by omega
  have z1 : (b0.toNat : Int) ≤ 239 := by omega
  unfold cont at c1
  have y1a : 128 ≤ (b1.toNat : Int) := by omega
  have y1b : (b1.toNat : Int) ≤ 191 := by omega
  unfold cont at c2
  have y2a : 128 ≤ (b2.toNat : Int) := by omega
  have y2b : (b2.toNat : Int) ≤ 191 := by omega
  have q1 : 55296 ≤ (((b0.toNat : Int) - 224) * 64 + (b1.toNat : Int) - 128) * 64 + (b2.toNat : Int) - 128 := by omega
  have q2 : (((b0.toNat : Int) - 224) * 64 + (b1.toNat : Int) - 128) * 64 + (b2.toNat : Int) - 128 ≤ 57343 := by omega
  clear hb0 hb1 hb2 c1 c2 h0 h1 cv
  go_enter Tryz.func110, Tryz.ntmps110
  go_wp2
  refine wp_loop_rounds 3 ?_
  rw [rounds_succ]
  go_wp2
  rw [rounds_succ]
  go_wp2
  rw [rounds_succ]
  go_wp2
  go_ret
  exact ⟨rfl, rfl⟩
set_option maxRecDepth 100000 in
set_option maxHeartbeats 1600000 in
theorem three_oka (s : ByteArray) (i : Nat) (w : World) (hi : i + 3 ≤ s.size) (hs : s.size ≤ 4611686018427387904) (h0 : 224 ≤ (s.get! i).toNat) (h1 : (s.get! i).toNat ≤ 239) (c1 : cont (s.get! (i + 1)).toNat) (c2 : cont (s.get! (i + 2)).toNat) (cv : 2048 ≤ (((s.get! i).toNat - 224) * 64 + (s.get! (i + 1)).toNat - 128) * 64 + (s.get! (i + 2)).toNat - 128 ∧ (((s.get! i).toNat - 224) * 64 + (s.get! (i + 1)).toNat - 128) * 64 + (s.get! (i + 2)).toNat - 128 < 55296) :
    Calls Tryz.prog 110 #[.string s, .int .i64 i] w (Ret 3 w) := by
  have hlt : (i : Int) < s.size := by omega
  have hlt2 : (i : Int) + 3 ≤ s.size := by omega
  have e0 : s[i]'(by omega) = s.get! (i) := get_eq s (i) (by omega)
  have e1 : s[i + 1]'(by omega) = s.get! (i + 1) := get_eq s (i + 1) (by omega)
  have l1 : (i : Int) + 1 < s.size := by omega
  have e2 : s[i + 2]'(by omega) = s.get! (i + 2) := get_eq s (i + 2) (by omega)
  have l2 : (i : Int) + 2 < s.size := by omega
  obtain ⟨b0, hb0⟩ : ∃ b0, s.get! (i) = b0 := ⟨_, rfl⟩
  rw [hb0] at e0 h0 h1
  have u0 := u8_lt b0
  obtain ⟨b1, hb1⟩ : ∃ b1, s.get! (i + 1) = b1 := ⟨_, rfl⟩
  rw [hb1] at e1 c1
  have u1 := u8_lt b1
  obtain ⟨b2, hb2⟩ : ∃ b2, s.get! (i + 2) = b2 := ⟨_, rfl⟩
  rw [hb2] at e2 c2
  have u2 := u8_lt b2
  rw [hb0, hb1, hb2] at cv
  have z0 : (224 : Int) ≤ (b0.toNat : Int) := by omega
  have z1 : (b0.toNat : Int) ≤ 239 := by omega
  unfold cont at c1
  have y1a : 128 ≤ (b1.toNat : Int) := by omega
  have y1b : (b1.toNat : Int) ≤ 191 := by omega
  unfold cont at c2
  have y2a : 128 ≤ (b2.toNat : Int) := by omega
  have y2b : (b2.toNat : Int) ≤ 191 := by omega
  have q1 : 2048 ≤ (((b0.toNat : Int) - 224) * 64 + (b1.toNat : Int) - 128) * 64 + (b2.toNat : Int) - 128 := by omega
  have q2 : (((b0.toNat : Int) - 224) * 64 + (b1.toNat : Int) - 128) * 64 + (b2.toNat : Int) - 128 < 55296 := by omega
  clear hb0 hb1 hb2 c1 c2 h0 h1 cv
  go_enter Tryz.func110, Tryz.ntmps110
  go_wp2
  refine wp_loop_rounds 3 ?_
  rw [rounds_succ]
  go_wp2
  rw [rounds_succ]
  go_wp2
  rw [rounds_succ]
  go_wp2
  go_ret
  exact ⟨rfl, rfl⟩
set_option maxRecDepth 100000 in
set_option maxHeartbeats 1600000 in
theorem three_okb (s : ByteArray) (i : Nat) (w : World) (hi : i + 3 ≤ s.size) (hs : s.size ≤ 4611686018427387904) (h0 : 224 ≤ (s.get! i).toNat) (h1 : (s.get! i).toNat ≤ 239) (c1 : cont (s.get! (i + 1)).toNat) (c2 : cont (s.get! (i + 2)).toNat) (cv : 57343 < (((s.get! i).toNat - 224) * 64 + (s.get! (i + 1)).toNat - 128) * 64 + (s.get! (i + 2)).toNat - 128) :
    Calls Tryz.prog 110 #[.string s, .int .i64 i] w (Ret 3 w) := by
  have hlt : (i : Int) < s.size := by omega
  have hlt2 : (i : Int) + 3 ≤ s.size := by omega
  have e0 : s[i]'(by omega) = s.get! (i) := get_eq s (i) (by omega)
  have e1 : s[i + 1]'(by omega) = s.get! (i + 1) := get_eq s (i + 1) (by omega)
  have l1 : (i : Int) + 1 < s.size := by omega
  have e2 : s[i + 2]'(by omega) = s.get! (i + 2) := get_eq s (i + 2) (by omega)
  have l2 : (i : Int) + 2 < s.size := by omega
  obtain ⟨b0, hb0⟩ : ∃ b0, s.get! (i) = b0 := ⟨_, rfl⟩
  rw [hb0] at e0 h0 h1
  have u0 := u8_lt b0
  obtain ⟨b1, hb1⟩ : ∃ b1, s.get! (i + 1) = b1 := ⟨_, rfl⟩
  rw [hb1] at e1 c1
  have u1 := u8_lt b1
  obtain ⟨b2, hb2⟩ : ∃ b2, s.get! (i + 2) = b2 := ⟨_, rfl⟩
  rw [hb2] at e2 c2
  have u2 := u8_lt b2
  rw [hb0, hb1, hb2] at cv
  have z0 : (224 : Int) ≤ (b0.toNat : Int) := by omega
  have z1 : (b0.toNat : Int) ≤ 239 := by omega
  unfold cont at c1
  have y1a : 128 ≤ (b1.toNat : Int) := by omega
  have y1b : (b1.toNat : Int) ≤ 191 := by omega
  unfold cont at c2
  have y2a : 128 ≤ (b2.toNat : Int) := by omega
  have y2b : (b2.toNat : Int) ≤ 191 := by omega
  have q1 : 57343 < (((b0.toNat : Int) - 224) * 64 + (b1.toNat : Int) - 128) * 64 + (b2.toNat : Int) - 128 := by omega
  clear hb0 hb1 hb2 c1 c2 h0 h1 cv
  go_enter Tryz.func110, Tryz.ntmps110
  go_wp2
  refine wp_loop_rounds 3 ?_
  rw [rounds_succ]
  go_wp2
  rw [rounds_succ]
  go_wp2
  rw [rounds_succ]
  go_wp2
  go_ret
  exact ⟨rfl, rfl⟩
set_option maxRecDepth 100000 in
set_option maxHeartbeats 800000 in
theorem short4 (s : ByteArray) (i : Nat) (w : World) (hi : i < s.size) (hs : s.size ≤ 4611686018427387904) (hn : s.size < i + 4) (h0 : 240 ≤ (s.get! i).toNat) (h1 : (s.get! i).toNat ≤ 244) :
    Calls Tryz.prog 110 #[.string s, .int .i64 i] w (Ret 0 w) := by
  have hlt : (i : Int) < s.size := by omega
  have hlt2 : (s.size : Int) < (i : Int) + 4 := by omega
  have e0 : s[i]'hi = s.get! i := get_eq s i hi
  obtain ⟨b0, hb0⟩ : ∃ b0, s.get! i = b0 := ⟨_, rfl⟩
  rw [hb0] at h0 h1 e0
  have z0 : (240 : Int) ≤ (b0.toNat : Int) := by omega
  have z1 : (b0.toNat : Int) ≤ 244 := by omega
  clear hb0
  go_enter Tryz.func110, Tryz.ntmps110
  go_wp2
  go_ret
  exact ⟨rfl, rfl⟩
set_option maxRecDepth 100000 in
set_option maxHeartbeats 1600000 in
theorem four_bad1a (s : ByteArray) (i : Nat) (w : World) (hi : i + 4 ≤ s.size) (hs : s.size ≤ 4611686018427387904) (h0 : 240 ≤ (s.get! i).toNat) (h1 : (s.get! i).toNat ≤ 244) (c1 : (s.get! (i + 1)).toNat < 128) :
    Calls Tryz.prog 110 #[.string s, .int .i64 i] w (Ret 0 w) := by
  have hlt : (i : Int) < s.size := by omega
  have hlt2 : (i : Int) + 4 ≤ s.size := by omega
  have e0 : s[i]'(by omega) = s.get! (i) := get_eq s (i) (by omega)
  have e1 : s[i + 1]'(by omega) = s.get! (i + 1) := get_eq s (i + 1) (by omega)
  have l1 : (i : Int) + 1 < s.size := by omega
  obtain ⟨b0, hb0⟩ : ∃ b0, s.get! (i) = b0 := ⟨_, rfl⟩
  rw [hb0] at e0 h0 h1
  have u0 := u8_lt b0
  obtain ⟨b1, hb1⟩ : ∃ b1, s.get! (i + 1) = b1 := ⟨_, rfl⟩
  rw [hb1] at e1 c1
  have u1 := u8_lt b1
  have z0 : (240 : Int) ≤ (b0.toNat : Int) := by omega
  have z1 : (b0.toNat : Int) ≤ 244 := by omega
  have y1 : (b1.toNat : Int) < 128 := by omega
  clear hb0 hb1 c1 h0 h1
  go_enter Tryz.func110, Tryz.ntmps110
  go_wp2
  refine wp_loop_rounds 2 ?_
  rw [rounds_succ]
  go_wp2
  go_ret
  exact ⟨rfl, rfl⟩
set_option maxRecDepth 100000 in
set_option maxHeartbeats 1600000 in
theorem four_bad1b (s : ByteArray) (i : Nat) (w : World) (hi : i + 4 ≤ s.size) (hs : s.size ≤ 4611686018427387904) (h0 : 240 ≤ (s.get! i).toNat) (h1 : (s.get! i).toNat ≤ 244) (c1 : 191 < (s.get! (i + 1)).toNat) :
    Calls Tryz.prog 110 #[.string s, .int .i64 i] w (Ret 0 w) := by
  have hlt : (i : Int) < s.size := by omega
  have hlt2 : (i : Int) + 4 ≤ s.size := by omega
  have e0 : s[i]'(by omega) = s.get! (i) := get_eq s (i) (by omega)
  have e1 : s[i + 1]'(by omega) = s.get! (i + 1) := get_eq s (i + 1) (by omega)
  have l1 : (i : Int) + 1 < s.size := by omega
  obtain ⟨b0, hb0⟩ : ∃ b0, s.get! (i) = b0 := ⟨_, rfl⟩
  rw [hb0] at e0 h0 h1
  have u0 := u8_lt b0
  obtain ⟨b1, hb1⟩ : ∃ b1, s.get! (i + 1) = b1 := ⟨_, rfl⟩
  rw [hb1] at e1 c1
  have u1 := u8_lt b1
  have z0 : (240 : Int) ≤ (b0.toNat : Int) := by omega
  have z1 : (b0.toNat : Int) ≤ 244 := by omega
  have y1 : 191 < (b1.toNat : Int) := by omega
  clear hb0 hb1 c1 h0 h1
  go_enter Tryz.func110, Tryz.ntmps110
  go_wp2
  refine wp_loop_rounds 2 ?_
  rw [rounds_succ]
  go_wp2
  go_ret
  exact ⟨rfl, rfl⟩
set_option maxRecDepth 100000 in
set_option maxHeartbeats 1600000 in
theorem four_bad2a (s : ByteArray) (i : Nat) (w : World) (hi : i + 4 ≤ s.size) (hs : s.size ≤ 4611686018427387904) (h0 : 240 ≤ (s.get! i).toNat) (h1 : (s.get! i).toNat ≤ 244) (c1 : cont (s.get! (i + 1)).toNat) (c2 : (s.get! (i + 2)).toNat < 128) :
    Calls Tryz.prog 110 #[.string s, .int .i64 i] w (Ret 0 w) := by
  have hlt : (i : Int) < s.size := by omega
  have hlt2 : (i : Int) + 4 ≤ s.size := by omega
  have e0 : s[i]'(by omega) = s.get! (i) := get_eq s (i) (by omega)
  have e1 : s[i + 1]'(by omega) = s.get! (i + 1) := get_eq s (i + 1) (by omega)
  have l1 : (i : Int) + 1 < s.size := by omega
  have e2 : s[i + 2]'(by omega) = s.get! (i + 2) := get_eq s (i + 2) (by omega)
  have l2 : (i : Int) + 2 < s.size := by omega
  obtain ⟨b0, hb0⟩ : ∃ b0, s.get! (i) = b0 := ⟨_, rfl⟩
  rw [hb0] at e0 h0 h1
  have u0 := u8_lt b0
  obtain ⟨b1, hb1⟩ : ∃ b1, s.get! (i + 1) = b1 := ⟨_, rfl⟩
  rw [hb1] at e1 c1
  have u1 := u8_lt b1
  obtain ⟨b2, hb2⟩ : ∃ b2, s.get! (i + 2) = b2 := ⟨_, rfl⟩
  rw [hb2] at e2 c2
  have u2 := u8_lt b2
  have z0 : (240 : Int) ≤ (b0.toNat : Int) := by omega
  have z1 : (b0.toNat : Int) ≤ 244 := by omega
  unfold cont at c1
  have y1a : 128 ≤ (b1.toNat : Int) := by omega
  have y1b : (b1.toNat : Int) ≤ 191 := by omega
  have y2 : (b2.toNat : Int) < 128 := by omega
  clear hb0 hb1 hb2 c1 c2 h0 h1
  go_enter Tryz.func110, Tryz.ntmps110
  go_wp2
  refine wp_loop_rounds 3 ?_
  rw [rounds_succ]
  go_wp2
  rw [rounds_succ]
  go_wp2
  go_ret
  exact ⟨rfl, rfl⟩
set_option maxRecDepth 100000 in
set_option maxHeartbeats 1600000 in
theorem four_bad2b (s : ByteArray) (i : Nat) (w : World) (hi : i + 4 ≤ s.size) (hs : s.size ≤ 4611686018427387904) (h0 : 240 ≤ (s.get! i).toNat) (h1 : (s.get! i).toNat ≤ 244) (c1 : cont (s.get! (i + 1)).toNat) (c2 : 191 < (s.get! (i + 2)).toNat) :
    Calls Tryz.prog 110 #[.string s, .int .i64 i] w (Ret 0 w) := by
  have hlt : (i : Int) < s.size := by omega
  have hlt2 : (i : Int) + 4 ≤ s.size := by omega
  have e0 : s[i]'(by omega) = s.get! (i) := get_eq s (i) (by omega)
  have e1 : s[i + 1]'(by omega) = s.get! (i + 1) := get_eq s (i + 1) (by omega)
  have l1 : (i : Int) + 1 < s.size := by omega
  have e2 : s[i + 2]'(by omega) = s.get! (i + 2) := get_eq s (i + 2) (by omega)
  have l2 : (i : Int) + 2 < s.size := by omega
  obtain ⟨b0, hb0⟩ : ∃ b0, s.get! (i) = b0 := ⟨_, rfl⟩
  rw [hb0] at e0 h0 h1
  have u0 := u8_lt b0
  obtain ⟨b1, hb1⟩ : ∃ b1, s.get! (i + 1) = b1 := ⟨_, rfl⟩
  rw [hb1] at e1 c1
  have u1 := u8_lt b1
  obtain ⟨b2, hb2⟩ : ∃ b2, s.get! (i + 2) = b2 := ⟨_, rfl⟩
  rw [hb2] at e2 c2
  have u2 := u8_lt b2
  have z0 : (240 : Int) ≤ (b0.toNat : Int) := by omega
  have z1 : (b0.toNat : Int) ≤ 244 := by omega
  unfold cont at c1
  have y1a : 128 ≤ (b1.toNat : Int) := by omega
  have y1b : (b1.toNat : Int) ≤ 191 := by omega
  have y2 : 191 < (b2.toNat : Int) := by omega
  clear hb0 hb1 hb2 c1 c2 h0 h1
  go_enter Tryz.func110, Tryz.ntmps110
  go_wp2
  refine wp_loop_rounds 3 ?_
  rw [rounds_succ]
  go_wp2
  rw [rounds_succ]
  go_wp2
  go_ret
  exact ⟨rfl, rfl⟩
set_option maxRecDepth 100000 in
set_option maxHeartbeats 1600000 in
theorem four_bad3a (s : ByteArray) (i : Nat) (w : World) (hi : i + 4 ≤ s.size) (hs : s.size ≤ 4611686018427387904) (h0 : 240 ≤ (s.get! i).toNat) (h1 : (s.get! i).toNat ≤ 244) (c1 : cont (s.get! (i + 1)).toNat) (c2 : cont (s.get! (i + 2)).toNat) (c3 : (s.get! (i + 3)).toNat < 128) :
    Calls Tryz.prog 110 #[.string s, .int .i64 i] w (Ret 0 w) := by
  have hlt : (i : Int) < s.size := by omega
  have hlt2 : (i : Int) + 4 ≤ s.size := by omega
  have e0 : s[i]'(by omega) = s.get! (i) := get_eq s (i) (by omega)
  have e1 : s[i + 1]'(by omega) = s.get! (i + 1) := get_eq s (i + 1) (by omega)
  have l1 : (i : Int) + 1 < s.size := by omega
  have e2 : s[i + 2]'(by omega) = s.get! (i + 2) := get_eq s (i + 2) (by omega)
  have l2 : (i : Int) + 2 < s.size := by omega
  have e3 : s[i + 3]'(by omega) = s.get! (i + 3) := get_eq s (i + 3) (by omega)
  have l3 : (i : Int) + 3 < s.size := by omega
  obtain ⟨b0, hb0⟩ : ∃ b0, s.get! (i) = b0 := ⟨_, rfl⟩
  rw [hb0] at e0 h0 h1
  have u0 := u8_lt b0
  obtain ⟨b1, hb1⟩ : ∃ b1, s.get! (i + 1) = b1 := ⟨_, rfl⟩
  rw [hb1] at e1 c1
  have u1 := u8_lt b1
  obtain ⟨b2, hb2⟩ : ∃ b2, s.get! (i + 2) = b2 := ⟨_, rfl⟩
  rw [hb2] at e2 c2
  have u2 := u8_lt b2
  obtain ⟨b3, hb3⟩ : ∃ b3, s.get! (i + 3) = b3 := ⟨_, rfl⟩
  rw [hb3] at e3 c3
  have u3 := u8_lt b3
  have z0 : (240 : Int) ≤ (b0.toNat : Int) := by omega
  have z1 : (b0.toNat : Int) ≤ 244 := by omega
  unfold cont at c1
  have y1a : 128 ≤ (b1.toNat : Int) := by omega
  have y1b : (b1.toNat : Int) ≤ 191 := by omega
  unfold cont at c2
  have y2a : 128 ≤ (b2.toNat : Int) := by omega
  have y2b : (b2.toNat : Int) ≤ 191 := by omega
  have y3 : (b3.toNat : Int) < 128 := by omega
  clear hb0 hb1 hb2 hb3 c1 c2 c3 h0 h1
  go_enter Tryz.func110, Tryz.ntmps110
  go_wp2
  refine wp_loop_rounds 4 ?_
  rw [rounds_succ]
  go_wp2
  rw [rounds_succ]
  go_wp2
  rw [rounds_succ]
  go_wp2
  go_ret
  exact ⟨rfl, rfl⟩
set_option maxRecDepth 100000 in
set_option maxHeartbeats 1600000 in
theorem four_bad3b (s : ByteArray) (i : Nat) (w : World) (hi : i + 4 ≤ s.size) (hs : s.size ≤ 4611686018427387904) (h0 : 240 ≤ (s.get! i).toNat) (h1 : (s.get! i).toNat ≤ 244) (c1 : cont (s.get! (i + 1)).toNat) (c2 : cont (s.get! (i + 2)).toNat) (c3 : 191 < (s.get! (i + 3)).toNat) :
    Calls Tryz.prog 110 #[.string s, .int .i64 i] w (Ret 0 w) := by
  have hlt : (i : Int) < s.size := by omega
  have hlt2 : (i : Int) + 4 ≤ s.size := by omega
  have e0 : s[i]'(by omega) = s.get! (i) := get_eq s (i) (by omega)
  have e1 : s[i + 1]'(by omega) = s.get! (i + 1) := get_eq s (i + 1) (by omega)
  have l1 : (i : Int) + 1 < s.size := by omega
  have e2 : s[i + 2]'(by omega) = s.get! (i + 2) := get_eq s (i + 2) (by omega)
  have l2 : (i : Int) + 2 < s.size := by omega
  have e3 : s[i + 3]'(by omega) = s.get! (i + 3) := get_eq s (i + 3) (by omega)
  have l3 : (i : Int) + 3 < s.size := by omega
  obtain ⟨b0, hb0⟩ : ∃ b0, s.get! (i) = b0 := ⟨_, rfl⟩
  rw [hb0] at e0 h0 h1
  have u0 := u8_lt b0
  obtain ⟨b1, hb1⟩ : ∃ b1, s.get! (i + 1) = b1 := ⟨_, rfl⟩
  rw [hb1] at e1 c1
  have u1 := u8_lt b1
  obtain ⟨b2, hb2⟩ : ∃ b2, s.get! (i + 2) = b2 := ⟨_, rfl⟩
  rw [hb2] at e2 c2
  have u2 := u8_lt b2
  obtain ⟨b3, hb3⟩ : ∃ b3, s.get! (i + 3) = b3 := ⟨_, rfl⟩
  rw [hb3] at e3 c3
  have u3 := u8_lt b3
  have z0 : (240 : Int) ≤ (b0.toNat : Int) := by omega
  have z1 : (b0.toNat : Int) ≤ 244 := by omega
  unfold cont at c1
  have y1a : 128 ≤ (b1.toNat : Int) := by omega
  have y1b : (b1.toNat : Int) ≤ 191 := by omega
  unfold cont at c2
  have y2a : 128 ≤ (b2.toNat : Int) := by omega
  have y2b : (b2.toNat : Int) ≤ 191 := by omega
  have y3 : 191 < (b3.toNat : Int) := by omega
  clear hb0 hb1 hb2 hb3 c1 c2 c3 h0 h1
  go_enter Tryz.func110, Tryz.ntmps110
  go_wp2
  refine wp_loop_rounds 4 ?_
  rw [rounds_succ]
  go_wp2
  rw [rounds_succ]
  go_wp2
  rw [rounds_succ]
  go_wp2
  go_ret
  exact ⟨rfl, rfl⟩
set_option maxRecDepth 100000 in
set_option maxHeartbeats 1600000 in
theorem four_low (s : ByteArray) (i : Nat) (w : World) (hi : i + 4 ≤ s.size) (hs : s.size ≤ 4611686018427387904) (h0 : 240 ≤ (s.get! i).toNat) (h1 : (s.get! i).toNat ≤ 244) (c1 : cont (s.get! (i + 1)).toNat) (c2 : cont (s.get! (i + 2)).toNat) (c3 : cont (s.get! (i + 3)).toNat) (cv : (((((s.get! i).toNat - 240) * 64 + (s.get! (i + 1)).toNat - 128) * 64 + (s.get! (i + 2)).toNat - 128) * 64 + (s.get! (i + 3)).toNat - 128) < 65536) :
    Calls Tryz.prog 110 #[.string s, .int .i64 i] w (Ret 0 w) := by
  have hlt : (i : Int) < s.size := by omega
  have hlt2 : (i : Int) + 4 ≤ s.size := by omega
  have e0 : s[i]'(by omega) = s.get! (i) := get_eq s (i) (by omega)
  have e1 : s[i + 1]'(by omega) = s.get! (i + 1) := get_eq s (i + 1) (by omega)
  have l1 : (i : Int) + 1 < s.size := by omega
  have e2 : s[i + 2]'(by omega) = s.get! (i + 2) := get_eq s (i + 2) (by omega)
  have l2 : (i : Int) + 2 < s.size := by omega
  have e3 : s[i + 3]'(by omega) = s.get! (i + 3) := get_eq s (i + 3) (by omega)
  have l3 : (i : Int) + 3 < s.size := by omega
  obtain ⟨b0, hb0⟩ : ∃ b0, s.get! (i) = b0 := ⟨_, rfl⟩
  rw [hb0] at e0 h0 h1
  have u0 := u8_lt b0
  obtain ⟨b1, hb1⟩ : ∃ b1, s.get! (i + 1) = b1 := ⟨_, rfl⟩
  rw [hb1] at e1 c1
  have u1 := u8_lt b1
  obtain ⟨b2, hb2⟩ : ∃ b2, s.get! (i + 2) = b2 := ⟨_, rfl⟩
  rw [hb2] at e2 c2
  have u2 := u8_lt b2
  obtain ⟨b3, hb3⟩ : ∃ b3, s.get! (i + 3) = b3 := ⟨_, rfl⟩
  rw [hb3] at e3 c3
  have u3 := u8_lt b3
  rw [hb0, hb1, hb2, hb3] at cv
  have z0 : (240 : Int) ≤ (b0.toNat : Int) := by omega
  have z1 : (b0.toNat : Int) ≤ 244 := by omega
  unfold cont at c1
  have y1a : 128 ≤ (b1.toNat : Int) := by omega
  have y1b : (b1.toNat : Int) ≤ 191 := by omega
  unfold cont at c2
  have y2a : 128 ≤ (b2.toNat : Int) := by omega
  have y2b : (b2.toNat : Int) ≤ 191 := by omega
  unfold cont at c3
  have y3a : 128 ≤ (b3.toNat : Int) := by omega
  have y3b : (b3.toNat : Int) ≤ 191 := by omega
  have q1 : ((((b0.toNat : Int) - 240) * 64 + (b1.toNat : Int) - 128) * 64 + (b2.toNat : Int) - 128) * 64 + (b3.toNat : Int) - 128 < 65536 := by omega
  clear hb0 hb1 hb2 hb3 c1 c2 c3 h0 h1 cv
  go_enter Tryz.func110, Tryz.ntmps110
  go_wp2
  refine wp_loop_rounds 4 ?_
  rw [rounds_succ]
  go_wp2
  rw [rounds_succ]
  go_wp2
  rw [rounds_succ]
  go_wp2
  rw [rounds_succ]
  go_wp2
  go_ret
  exact ⟨rfl, rfl⟩
set_option maxRecDepth 100000 in
set_option maxHeartbeats 1600000 in
theorem four_high (s : ByteArray) (i : Nat) (w : World) (hi : i + 4 ≤ s.size) (hs : s.size ≤ 4611686018427387904) (h0 : 240 ≤ (s.get! i).toNat) (h1 : (s.get! i).toNat ≤ 244) (c1 : cont (s.get! (i + 1)).toNat) (c2 : cont (s.get! (i + 2)).toNat) (c3 : cont (s.get! (i + 3)).toNat) (cv : 1114111 < ((((s.get! i).toNat - 240) * 64 + (s.get! (i + 1)).toNat - 128) * 64 + (s.get! (i + 2)).toNat - 128) * 64 + (s.get! (i + 3)).toNat - 128) :
    Calls Tryz.prog 110 #[.string s, .int .i64 i] w (Ret 0 w) := by
  have hlt : (i : Int) < s.size := by omega
  have hlt2 : (i : Int) + 4 ≤ s.size := by omega
  have e0 : s[i]'(by omega) = s.get! (i) := get_eq s (i) (by omega)
  have e1 : s[i + 1]'(by omega) = s.get! (i + 1) := get_eq s (i + 1) (by omega)
  have l1 : (i : Int) + 1 < s.size := by omega
  have e2 : s[i + 2]'(by omega) = s.get! (i + 2) := get_eq s (i + 2) (by omega)
  have l2 : (i : Int) + 2 < s.size := by omega
  have e3 : s[i + 3]'(by omega) = s.get! (i + 3) := get_eq s (i + 3) (by omega)
  have l3 : (i : Int) + 3 < s.size := by omega
  obtain ⟨b0, hb0⟩ : ∃ b0, s.get! (i) = b0 := ⟨_, rfl⟩
  rw [hb0] at e0 h0 h1
  have u0 := u8_lt b0
  obtain ⟨b1, hb1⟩ : ∃ b1, s.get! (i + 1) = b1 := ⟨_, rfl⟩
  rw [hb1] at e1 c1
  have u1 := u8_lt b1
  obtain ⟨b2, hb2⟩ : ∃ b2, s.get! (i + 2) = b2 := ⟨_, rfl⟩
  rw [hb2] at e2 c2
  have u2 := u8_lt b2
  obtain ⟨b3, hb3⟩ : ∃ b3, s.get! (i + 3) = b3 := ⟨_, rfl⟩
  rw [hb3] at e3 c3
  have u3 := u8_lt b3
  rw [hb0, hb1, hb2, hb3] at cv
  have z0 : (240 : Int) ≤ (b0.toNat : Int) := by omega
  have z1 : (b0.toNat : Int) ≤ 244 := by omega
  unfold cont at c1
  have y1a : 128 ≤ (b1.toNat : Int) := by omega
  have y1b : (b1.toNat : Int) ≤ 191 := by omega
  unfold cont at c2
  have y2a : 128 ≤ (b2.toNat : Int) := by omega
  have y2b : (b2.toNat : Int) ≤ 191 := by omega
  unfold cont at c3
  have y3a : 128 ≤ (b3.toNat : Int) := by omega
  have y3b : (b3.toNat : Int) ≤ 191 := by omega
  have q1 : 1114111 < ((((b0.toNat : Int) - 240) * 64 + (b1.toNat : Int) - 128) * 64 + (b2.toNat : Int) - 128) * 64 + (b3.toNat : Int) - 128 := by omega
  clear hb0 hb1 hb2 hb3 c1 c2 c3 h0 h1 cv
  go_enter Tryz.func110, Tryz.ntmps110
  go_wp2
  refine wp_loop_rounds 4 ?_
  rw [rounds_succ]
  go_wp2
  rw [rounds_succ]
  go_wp2
  rw [rounds_succ]
  go_wp2
  rw [rounds_succ]
  go_wp2
  go_ret
  exact ⟨rfl, rfl⟩
set_option maxRecDepth 100000 in
set_option maxHeartbeats 1600000 in
theorem four_ok (s : ByteArray) (i : Nat) (w : World) (hi : i + 4 ≤ s.size) (hs : s.size ≤ 4611686018427387904) (h0 : 240 ≤ (s.get! i).toNat) (h1 : (s.get! i).toNat ≤ 244) (c1 : cont (s.get! (i + 1)).toNat) (c2 : cont (s.get! (i + 2)).toNat) (c3 : cont (s.get! (i + 3)).toNat) (cv : 65536 ≤ ((((s.get! i).toNat - 240) * 64 + (s.get! (i + 1)).toNat - 128) * 64 + (s.get! (i + 2)).toNat - 128) * 64 + (s.get! (i + 3)).toNat - 128 ∧ ((((s.get! i).toNat - 240) * 64 + (s.get! (i + 1)).toNat - 128) * 64 + (s.get! (i + 2)).toNat - 128) * 64 + (s.get! (i + 3)).toNat - 128 ≤ 1114111) :
    Calls Tryz.prog 110 #[.string s, .int .i64 i] w (Ret 4 w) := by
  have hlt : (i : Int) < s.size := by omega
  have hlt2 : (i : Int) + 4 ≤ s.size := by omega
  have e0 : s[i]'(by omega) = s.get! (i) := get_eq s (i) (by omega)
  have e1 : s[i + 1]'(by omega) = s.get! (i + 1) := get_eq s (i + 1) (by omega)
  have l1 : (i : Int) + 1 < s.size := by omega
  have e2 : s[i + 2]'(by omega) = s.get! (i + 2) := get_eq s (i + 2) (by omega)
  have l2 : (i : Int) + 2 < s.size := by omega
  have e3 : s[i + 3]'(by omega) = s.get! (i + 3) := get_eq s (i + 3) (by omega)
  have l3 : (i : Int) + 3 < s.size := by omega
  obtain ⟨b0, hb0⟩ : ∃ b0, s.get! (i) = b0 := ⟨_, rfl⟩
  rw [hb0] at e0 h0 h1
  have u0 := u8_lt b0
  obtain ⟨b1, hb1⟩ : ∃ b1, s.get! (i + 1) = b1 := ⟨_, rfl⟩
  rw [hb1] at e1 c1
  have u1 := u8_lt b1
  obtain ⟨b2, hb2⟩ : ∃ b2, s.get! (i + 2) = b2 := ⟨_, rfl⟩
  rw [hb2] at e2 c2
  have u2 := u8_lt b2
  obtain ⟨b3, hb3⟩ : ∃ b3, s.get! (i + 3) = b3 := ⟨_, rfl⟩
  rw [hb3] at e3 c3
  have u3 := u8_lt b3
  rw [hb0, hb1, hb2, hb3] at cv
  have z0 : (240 : Int) ≤ (b0.toNat : Int) := by omega
  have z1 : (b0.toNat : Int) ≤ 244 := by omega
  unfold cont at c1
  have y1a : 128 ≤ (b1.toNat : Int) := by omega
  have y1b : (b1.toNat : Int) ≤ 191 := by omega
  unfold cont at c2
  have y2a : 128 ≤ (b2.toNat : Int) := by omega
  have y2b : (b2.toNat : Int) ≤ 191 := by omega
  unfold cont at c3
  have y3a : 128 ≤ (b3.toNat : Int) := by omega
  have y3b : (b3.toNat : Int) ≤ 191 := by omega
  have q1 : 65536 ≤ ((((b0.toNat : Int) - 240) * 64 + (b1.toNat : Int) - 128) * 64 + (b2.toNat : Int) - 128) * 64 + (b3.toNat : Int) - 128 := by omega
  have q2 : ((((b0.toNat : Int) - 240) * 64 + (b1.toNat : Int) - 128) * 64 + (b2.toNat : Int) - 128) * 64 + (b3.toNat : Int) - 128 ≤ 1114111 := by omega
  clear hb0 hb1 hb2 hb3 c1 c2 c3 h0 h1 cv
  go_enter Tryz.func110, Tryz.ntmps110
  go_wp2
  refine wp_loop_rounds 4 ?_
  rw [rounds_succ]
  go_wp2
  rw [rounds_succ]
  go_wp2
  rw [rounds_succ]
  go_wp2
  rw [rounds_succ]
  go_wp2
  go_ret
  exact ⟨rfl, rfl⟩
end RR
end Go.Proofs.YtmpmmebmhffaeaaGreatDoor
