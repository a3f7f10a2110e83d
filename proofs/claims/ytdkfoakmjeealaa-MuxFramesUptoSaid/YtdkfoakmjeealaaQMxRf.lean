/- Layer 9: the contracts of the document's reader (hawserref03): number, Num, Text, Count, End, over lists. -/
import Derived.Test.YtdkfoakmjeealaaQMxRdU
import Derived.Test.YtdkfoakmjeealaaQQs
import Derived.WalkKit
import Derived.BigRegion
import Derived.BigQuiet
import Derived.Lib.MinMax
import Derived.Deep.RegionWith
import Derived.Lib.QuietBelow
import Derived.Lib.IndexBytes
set_option linter.all false
set_option maxRecDepth 100000
set_option maxHeartbeats 25600000
namespace Go.Proofs.Ytdkfoakmjeealaa
open Go.RowKit Go.Lib
namespace TR
theorem byte_at (p : ByteArray) (i : Nat) (h : i < p.size) (z : Int) (hz : z = i) :
    ∃ x : Nat, (p.data.toList.getD i 0).toNat = x ∧ (x : Int) < 256 ∧ ∀ W, (Instr.index 9 (.string p) (.int .i64 z)).run Try.prog W = .ok (.int .u8 (x : Nat)) W := by
  subst hz
  refine ⟨_, rfl, ?_, fun W => ?_⟩
  · have := (p.data.toList.getD i 0).toNat_lt
    omega
  · have h0 : 0 ≤ (i : Int) ∧ (i : Int) < (p.size : Int) := by omega
    rw [run_index_string W 9 p .i64 (i : Int) Try.underlying9, dif_pos h0]
    have e := Lib.data_getElem? p i h
    rw [List.getD_eq_getElem?_getD, e]
    rfl
end TR
namespace RR
open CP CR AP

/-- The document's reader in memory. -/
structure RefAt (bk : Nat) (s : ByteArray) (a : Nat) (f : Int) (w : World) : Prop where
  c0 : w.cell? ⟨bk, 0, none⟩ = some (.string s)
  c1 : w.cell? ⟨bk, 1, none⟩ = some (.int .i64 a)
  c2 : w.cell? ⟨bk, 2, none⟩ = some (.int .i64 f)
  f1 : w.frozen? ⟨bk, 1, none⟩ = false
  f2 : w.frozen? ⟨bk, 2, none⟩ = false
  lt : bk < w.heap.size
theorem RefAt.out {bk : Nat} {S : Nat → Prop} {s : ByteArray} {a : Nat} {f : Int} {w w' : World} (h : RefAt bk s a f w) (hb : FP.Out S w w') (hS : ¬ S bk) : RefAt bk s a f w' :=
  ⟨by rw [hb.cell (p := ⟨bk, 0, none⟩) h.lt hS]; exact h.c0, by rw [hb.cell (p := ⟨bk, 1, none⟩) h.lt hS]; exact h.c1, by rw [hb.cell (p := ⟨bk, 2, none⟩) h.lt hS]; exact h.c2, by rw [hb.frozen (p := ⟨bk, 1, none⟩) h.lt hS]; exact h.f1, by rw [hb.frozen (p := ⟨bk, 2, none⟩) h.lt hS]; exact h.f2, Nat.lt_of_lt_of_le h.lt hb.size⟩
/-- What the document's number answers at a place: the value, the place behind it, the error. -/
def numAt (l : List UInt8) (a : Nat) : Nat × Nat × Nat := if (rd 0 0 (l.drop a)).2.2 = 0 then ((rd 0 0 (l.drop a)).1, a + (rd 0 0 (l.drop a)).2.1, 0) else (0, 0, (rd 0 0 (l.drop a)).2.2)
theorem numAt_end {l : List UInt8} {a k v : Nat} (h : rd 0 0 (l.drop a) = rd k v (l.drop (a + k))) : numAt l a = if (rd k v (l.drop (a + k))).2.2 = 0 then ((rd k v (l.drop (a + k))).1, a + (rd k v (l.drop (a + k))).2.1, 0) else (0, 0, (rd k v (l.drop (a + k))).2.2) := by unfold numAt; rw [h]
def NumInv (l : List UInt8) (a : Nat) (s7 s8 s9 : Value) : Prop :=
  ∃ (k v : Nat) (u : Int), s9 = .int .i64 k ∧ s7 = .int .i64 v ∧ s8 = .int .i64 u ∧ (k ≤ 8 → u = ((128 ^ k : Nat) : Int)) ∧ k ≤ 9 ∧ v < 128 ^ k ∧ a + k ≤ l.length ∧ rd 0 0 (l.drop a) = rd k v (l.drop (a + k))
theorem pow_lt {k : Nat} (h : k ≤ 8) : 128 ^ k ≤ 72057594037927936 := by
  have : 128 ^ k ≤ 128 ^ 8 := Nat.pow_le_pow_right (by decide) h
  have e : (128 : Nat) ^ 8 = 72057594037927936 := by decide
  omega
theorem sum_lt {v q U : Nat} (h1 : v < U) (h2 : q ≤ 127 * U) : v + q < 128 * U := by omega
set_option maxRecDepth 100000 in
set_option maxHeartbeats 3200000 in
theorem number_any (s : ByteArray) (a : Nat) (w : World) (ha : a ≤ s.size) (hs : s.size ≤ 140737488355328) :
    Calls Try.prog 63 #[.string s, .int .i64 a] w fun r w' => r = .returned (.tuple #[.int .i64 ((numAt s.data.toList a).1 : Nat), .int .i64 ((numAt s.data.toList a).2.1 : Nat), .int .i64 ((numAt s.data.toList a).2.2 : Nat)]) ∧ w = w' := by
  obtain ⟨l, hl⟩ : ∃ l, s.data.toList = l := ⟨_, rfl⟩
  obtain ⟨n, hn⟩ : ∃ n, s.size = n := ⟨_, rfl⟩
  have hnl : l.length = n := by rw [← hl, ← Lib.size_eq]; exact hn
  have HL := Lib.hid hl
  have HNL := Lib.hid hnl
  rw [hn] at ha hs
  rw [hl]
  have hnz : (n : Int) ≤ 140737488355328 := by omega
  have haz : (a : Int) ≤ n := by omega
  clear hl hnl
  go_enter Try.func63, Try.ntmps63
  repeat (first | go_skip | go_guarded | go_step | go_upon)
  go_loop [7, 8, 9] (fun s7 s8 s9 => NumInv l a s7 s8 s9) (fun _ _ s9 => 9 - (Go.RowKit.intOf s9).toNat)
  case atStart => exact ⟨0, 0, 1, rfl, rfl, rfl, fun _ => rfl, by decide, by decide, by rw [HNL.out]; omega, rfl⟩
  case round =>
    obtain ⟨k, v, u, rfl, rfl, rfl, hu, hk, hv, hal, hrd⟩ := hrel
    have HE := Lib.hid (numAt_end hrd)
    have HRd := Lib.hid hrd
    have HU := Lib.hid hu
    have HV := Lib.hid hv
    have hal' : a + k ≤ n := by rw [← HNL.out]; exact hal
    clear hrd hu hv hal
    by_cases hk9 : k = 9
    · subst hk9
      have HF : Hid (numAt l a = (0, 0, 31)) := Lib.hid (by
        rw [HE.out]
        have : rd 9 v (l.drop (a + 9)) = (0, 0, 31) := by
          cases l.drop (a + 9) <;> simp [rd]
        rw [this]
        rfl)
      repeat (first | go_skip | go_guarded | go_step | go_upon)
      go_ret3
      exact ⟨by rw [HF.out]; rfl, rfl⟩
    · have hk8 : k ≤ 8 := by omega
      have hk9z : ((k : Int) == 9) = false := by simp; omega
      have hkz : (k : Int) ≤ 8 := by omega
      by_cases hle : a + k < n
      · have hlz : ¬ (n : Int) ≤ (a : Int) + k := by omega
        have hp := pow_lt hk8
        have hu := HU.out hk8
        have hv := HV.out
        obtain ⟨U, hUe⟩ : ∃ u, 128 ^ k = u := ⟨_, rfl⟩
        rw [hUe] at hp hv hu
        subst hu
        obtain ⟨b, hb, hbl, i0⟩ := TR.byte_at s (a + k) (by omega) ((a : Int) + k) (by push_cast; rfl)
        rw [HL.out] at hb
        obtain ⟨c, hce⟩ : ∃ c, l[a + k]? = some c := ⟨l[a + k]'(by rw [HNL.out]; exact hle), List.getElem?_eq_getElem _⟩
        rw [List.getD_eq_getElem?_getD, hce, Option.getD_some] at hb
        have hdrop : l.drop (a + k) = c :: l.drop (a + (k + 1)) := by
          obtain ⟨h2, h3⟩ := List.getElem?_eq_some_iff.1 hce
          rw [List.drop_eq_getElem_cons h2, h3, Nat.add_assoc]
        have HD := Lib.hid hdrop
        have HB := Lib.hid hb
        have HUe := Lib.hid hUe
        clear hdrop hb hce hUe
        have hm : b % 128 * U ≤ 127 * U := Nat.mul_le_mul_right U (by have := Nat.mod_lt b (show 0 < 128 by decide); omega)
        obtain ⟨q, hq⟩ : ∃ q, b % 128 * U = q := ⟨_, rfl⟩
        have hqz : wrap64 ((b : Int) % 128 * (U : Int)) = (q : Int) := by
          rw [show (b : Int) % 128 * (U : Int) = ((b % 128 * U : Nat) : Int) by push_cast; rfl, hq]
          exact wrap64_nat (by omega)
        have HQ := Lib.hid hq
        rw [hq] at hm
        obtain ⟨x, hx⟩ : ∃ x, v + q = x := ⟨_, rfl⟩
        have hxz : wrap64 ((v : Int) + (q : Int)) = (x : Int) := by
          rw [← hx, ← Int.natCast_add]
          exact wrap64_nat (by omega)
        have hxl : x < 128 * U := hx ▸ sum_lt hv hm
        have HX := Lib.hid hx
        clear hq hx hm hv
        by_cases hlt : b < 128
        · have hltz : (b : Int) < 128 := by omega
          by_cases hb0 : b = 0
          · have hb0z : ((b : Int) == 0) = true := by simp [hb0]
            by_cases hk0 : 0 < k
            · have HF : Hid (numAt l a = (0, 0, 31)) := Lib.hid (by
                rw [HE.out]
                have : rd k v (l.drop (a + k)) = (0, 0, 31) := by
                  rw [HD.out, rd, if_neg hk9, HB.out, if_pos hlt, if_pos ⟨UInt8.toNat_inj.1 (by rw [HB.out, hb0]; rfl), hk0⟩]
                rw [this]
                rfl)
              have hk0z : (0 : Int) < k := by omega
              clear hb0
              repeat (first | go_skip | go_guarded | go_step | go_upon)
              go_ret3
              exact ⟨by rw [HF.out]; rfl, rfl⟩
            · have HF : Hid (numAt l a = (x, a + (k + 1), 0)) := Lib.hid (by
                rw [HE.out]
                have : rd k v (l.drop (a + k)) = (v + q, k + 1, 0) := by
                  rw [HD.out, rd, if_neg hk9, HB.out, if_pos hlt, if_neg (fun h => hk0 h.2), HUe.out, ← HQ.out, Nat.mod_eq_of_lt hlt]
                rw [this, HX.out]
                rfl)
              have hk0z : ¬ (0 : Int) < k := by omega
              clear hb0
              repeat (first | go_skip | go_guarded | go_step | go_upon)
              go_ret3
              exact ⟨by rw [HF.out]; push_cast; simp; omega, rfl⟩
          · have hb0z : ((b : Int) == 0) = false := by simpa using hb0
            have HF : Hid (numAt l a = (x, a + (k + 1), 0)) := Lib.hid (by
              rw [HE.out]
              have : rd k v (l.drop (a + k)) = (v + q, k + 1, 0) := by
                rw [HD.out, rd, if_neg hk9, HB.out, if_pos hlt, if_neg (fun h => hb0 (by rw [← HB.out, h.1]; rfl)), HUe.out, ← HQ.out, Nat.mod_eq_of_lt hlt]
              rw [this, HX.out]
              rfl)
            repeat (first | go_skip | go_guarded | go_step | go_upon)
            go_ret3
            exact ⟨by rw [HF.out]; push_cast; simp; omega, rfl⟩
        · have hltz : ¬ (b : Int) < 128 := by omega
          have HN : Hid (NumInv l a (.int .i64 (x : Int)) (.int .i64 (wrap64 ((U : Int) * 128))) (.int .i64 ((k + 1 : Nat) : Int))) := Lib.hid ⟨k + 1, x, wrap64 ((U : Int) * 128), rfl, rfl, rfl, (fun h8 => by
            have h9 := pow_lt (k := k) hk8
            have h10 := pow_lt (k := k + 1) h8
            rw [Nat.pow_succ] at h10 ⊢
            rw [HUe.out] at h10 ⊢
            rw [show (U : Int) * 128 = ((U * 128 : Nat) : Int) by push_cast; rfl]
            exact wrap64_nat (by omega)), by omega, by rw [Nat.pow_succ, HUe.out]; omega, by rw [HNL.out]; omega, by rw [HRd.out, HD.out, rd, if_neg hk9, HB.out, if_neg hlt, HUe.out, HQ.out, HX.out]⟩
          repeat (first | go_skip | go_guarded | go_step | go_upon)
          have hk1 : ((k : Int) + 1) = ((k + 1 : Nat) : Int) := by push_cast; rfl
          exact ⟨by have := HN.out; rw [hk1]; first | exact this | (rw [hxz]; exact this), by simp [Go.RowKit.intOf]; omega⟩
      · have hlz : (n : Int) ≤ (a : Int) + k := by omega
        have HF : Hid (numAt l a = (0, 0, 30)) := Lib.hid (by
          rw [HE.out]
          have : rd k v (l.drop (a + k)) = (0, 0, 30) := by
            rw [List.drop_of_length_le (by rw [HNL.out]; omega)]
            unfold rd
            rw [if_neg hk9]
          rw [this]
          rfl)
        repeat (first | go_skip | go_guarded | go_step | go_upon)
        go_ret3
        exact ⟨by rw [HF.out]; rfl, rfl⟩
end RR
end Go.Proofs.Ytdkfoakmjeealaa
