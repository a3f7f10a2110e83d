/- Layer 4: the statement on the weak sum, the check sum and the digits: its walk. -/
import Derived.Test.YtphblgpimphgiaaDoorHashAwake
import Derived.Test.YtphblgpimphgiaaDoorHashHex
import Derived.Lib.QuietBelow
import Derived.BigQuiet
namespace Go.Proofs.YtphblgpimphgiaaDoor
open Go.RowKit Go.Lib Go.BigFrame
namespace HQ
open HP HS HR

set_option maxRecDepth 100000 in
set_option maxHeartbeats 1600000 in
theorem others_any (s : ByteArray) (n : Int) (x y : UInt8) (w : World) (he : Env w) (hs : s.size ≤ 1048576) (h0 : -9223372036854775808 ≤ n) (h1 : n ≤ 9223372036854775807) :
    Calls Tryd.prog 4 #[.string s, .int .i64 n, .agg #[.int .u8 (x.toNat : Nat), .int .u8 (y.toNat : Nat)]] w fun r w' => r = .returned (.bool true) ∧ Below w.heap.size w w' := by
  obtain ⟨W1, hW1⟩ : ∃ W1, w.alloc (.cells #[.int .u8 (x.toNat : Nat), .int .u8 (y.toNat : Nat)] 25) = W1 := ⟨_, rfl⟩
  have hrow : W1.heap[w.heap.size]? = some (.cells #[.int .u8 (x.toNat : Nat), .int .u8 (y.toNat : Nat)] 25 (0, 0)) := by rw [← hW1]; exact heap_alloc_new w _
  have hb1 : Below w.heap.size w W1 := by rw [← hW1]; exact (Below.refl _ _).alloc (Nat.le_refl _) _
  have hs1 : W1.heap.size = w.heap.size + 1 := by rw [← hW1]; simp
  have cA := awake_any W1 (he.below hb1)
  have HE := Lib.hid he
  have hmx : s.size ≤ maxLen := by unfold maxLen; omega
  have cW := fun W => weak_all s W hmx
  obtain ⟨c, hc⟩ : ∃ c, weakL s.data.toList = c := ⟨_, rfl⟩
  have hcl : c < 4294967296 := by rw [← hc]; exact weak_lt _
  obtain ⟨k, hk⟩ : ∃ k, crcL s.data.toList = k := ⟨_, rfl⟩
  obtain ⟨H, hH⟩ : ∃ H : ByteArray, H = ⟨(hexL s.data.toList).toArray⟩ := ⟨_, rfl⟩
  obtain ⟨q, hq⟩ : ∃ q, rollL c n x y = q := ⟨_, rfl⟩
  rw [hc] at cW
  have hHH : (H.toList == H.toList) = true := by simp
  have CW := Lib.hid cW
  clear cW he
  go_enter Tryd.func4, Tryd.ntmps4
  go_wp2_with fail
  refine cA.mono ?_
  rintro r w2 ⟨rfl, hb⟩
  have hk2 : w2.heap[w.heap.size]? = some (.cells #[.int .u8 (x.toNat : Nat), .int .u8 (y.toNat : Nat)] 25 (0, 0)) := (hb.block _ (by omega)).trans hrow
  have HB := Lib.hid (Below.trans hb1 (hb.mono (by omega)))
  have HE2 : Hid (∀ d os, Env (Go.Sort.grow (redrawn w2 d) os)) := Lib.hid (fun d os => (HE.out.below HB.out).below (below_regrown w2 d os))
  have t0 : w2.cell? ⟨w.heap.size, 0, none⟩ = some (.int .u8 (x.toNat : Nat)) := by rw [cell_of_row w2 w.heap.size 0 _ _ _ hk2]; rfl
  have t1 : w2.cell? ⟨w.heap.size, 1, none⟩ = some (.int .u8 (y.toNat : Nat)) := by rw [cell_of_row w2 w.heap.size 1 _ _ _ hk2]; rfl
  have k0 := cell_regrown t0
  have k1 := cell_regrown t1
  have cRW : ∀ d os, Calls Tryd.prog 12 #[.string s] (Go.Sort.grow (redrawn w2 d) os) fun e w'' => e = .returned (.int .u32 (c : Nat)) ∧ ∃ p : Regrown, w'' = Go.Sort.grow (redrawn w2 p.d) p.os := fun d os => Calls.regrown_of ((rweak_any s _ hmx).mono fun e w' h => ⟨by rw [← hc]; exact h.1, h.2 ▸ Below.refl _ _⟩)
  have cC : ∀ d os, Calls Tryd.prog 13 #[.string s] (Go.Sort.grow (redrawn w2 d) os) fun e w'' => e = .returned (.int .u32 (k : Nat)) ∧ ∃ p : Regrown, w'' = Go.Sort.grow (redrawn w2 p.d) p.os := fun d os => Calls.regrown_of ((crc_any s _ (HE2.out d os) hmx).mono fun e w' h => ⟨by rw [← hk]; exact h.1, h.2 ▸ Below.refl _ _⟩)
  have cRC : ∀ d os, Calls Tryd.prog 14 #[.string s] (Go.Sort.grow (redrawn w2 d) os) fun e w'' => e = .returned (.int .u32 (k : Nat)) ∧ ∃ p : Regrown, w'' = Go.Sort.grow (redrawn w2 p.d) p.os := fun d os => Calls.regrown_of ((rcrc_any s _ hmx).mono fun e w' h => ⟨by rw [← hk]; exact h.1, h.2 ▸ Below.refl _ _⟩)
  have cH : ∀ d os, Calls Tryd.prog 15 #[.string s] (Go.Sort.grow (redrawn w2 d) os) fun e w'' => e = .returned (.string H) ∧ ∃ p : Regrown, w'' = Go.Sort.grow (redrawn w2 p.d) p.os := fun d os => Calls.regrown_of ((hex_any s _ (by omega)).mono fun e w' h => ⟨by rw [hH]; exact h.1, h.2⟩)
  have cRH : ∀ d os, Calls Tryd.prog 16 #[.string s] (Go.Sort.grow (redrawn w2 d) os) fun e w'' => e = .returned (.string H) ∧ ∃ p : Regrown, w'' = Go.Sort.grow (redrawn w2 p.d) p.os := fun d os => Calls.regrown_of ((rhex_any s _ (by omega)).mono fun e w' h => ⟨by rw [hH]; exact h.1, h.2⟩)
  have cR : ∀ d os, Calls Tryd.prog 17 #[.int .u32 (c : Nat), .int .i64 n, .int .u8 (x.toNat : Nat), .int .u8 (y.toNat : Nat)] (Go.Sort.grow (redrawn w2 d) os) fun e w'' => e = .returned (.int .u32 q) ∧ ∃ p : Regrown, w'' = Go.Sort.grow (redrawn w2 p.d) p.os := fun d os => Calls.regrown_of ((roll_any c n x y _ hcl h0 h1).mono fun e w' h => ⟨by rw [← hq]; exact h.1, h.2 ▸ Below.refl _ _⟩)
  have cRR : ∀ d os, Calls Tryd.prog 18 #[.int .u32 (c : Nat), .int .i64 n, .int .u8 (x.toNat : Nat), .int .u8 (y.toNat : Nat)] (Go.Sort.grow (redrawn w2 d) os) fun e w'' => e = .returned (.int .u32 q) ∧ ∃ p : Regrown, w'' = Go.Sort.grow (redrawn w2 p.d) p.os := fun d os => Calls.regrown_of ((rroll_any c n x y _ hcl h0 h1).mono fun e w' h => ⟨by rw [← hq]; exact h.1, h.2 ▸ Below.refl _ _⟩)
  have C1 := Lib.hid cRW
  have C2 := Lib.hid cC
  have C3 := Lib.hid cRC
  have C4 := Lib.hid cH
  have C5 := Lib.hid cRH
  have C6 := Lib.hid cR
  have C7 := Lib.hid cRR
  clear cRW cC cRC cH cRH cR cRR hW1 hrow hb1 hs1 hb hk2 hc hk hH hq cA hcl hmx t0 t1
  go_wp2_with (go_at_call 11; refine (CW.out _).mono ?_; rintro r w3 ⟨rfl, rfl⟩)
  with_reducible refine wp_region_quiet_below (by kernel_rfl) (by kernel_rfl) ?_
  repeat (go_big_quiet_step (first | (go_at_call 12; exact C1.out _ _) | (go_at_call 13; exact C2.out _ _) | (go_at_call 14; exact C3.out _ _) | (go_at_call 15; exact C4.out _ _) | (go_at_call 16; exact C5.out _ _) | (go_at_call 17; exact C6.out _ _) | (go_at_call 18; exact C7.out _ _)))
  refine wpQuiet_nil ?_
  intro _ hw'
  obtain ⟨⟨dq, osq⟩, hw''⟩ := hw'
  subst hw''
  go_wp2_with fail
  go_ret
  exact ⟨rfl, Below.trans HB.out ((below_regrown w2 dq osq).mono HB.out.size)⟩
end HQ
end Go.Proofs.YtphblgpimphgiaaDoor
