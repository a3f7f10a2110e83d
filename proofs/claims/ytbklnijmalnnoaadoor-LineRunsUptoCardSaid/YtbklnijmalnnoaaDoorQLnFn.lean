/- Layer 15: the contracts of the program's written, read. -/
import Derived.Test.YtbklnijmalnnoaaDoorQLnTxt
import Derived.Test.YtbklnijmalnnoaaDoorQHashCrc
set_option linter.all false
set_option maxRecDepth 100000
set_option maxHeartbeats 25600000
namespace Go.Proofs.YtbklnijmalnnoaaDoor
open Go.RowKit Go.Lib Go.BigFrame
namespace RF
open HP HS RP OM RQ HR
open HQ (Env crc_any)

theorem or_u32 (a b : Nat) (ha : a < 2 ^ 32) (hb : b < 2 ^ 32) : bits .or .u32 (a : Int) (b : Int) = ((a ||| b : Nat) : Int) := by
  have hx : a ||| b < 2 ^ 32 := Nat.or_lt_two_pow ha hb
  show IntKind.u32.wrap ((BitVec.ofInt 32 (a : Int) ||| BitVec.ofInt 32 (b : Int)).toNat : Int) = _
  rw [BitVec.toNat_or, ofInt_u32 a ha, ofInt_u32 b hb, wrap_u32 _ hx]
theorem or_add (a b i : Nat) (hb : b < 2 ^ i) : 2 ^ i * a ||| b = 2 ^ i * a + b := (Nat.two_pow_add_eq_or_of_lt hb a).symm
theorem or4 (a b c d : Nat) (ha : (a : Int) < 256) (hb : (b : Int) < 256) (hc : (c : Int) < 256) (hd : (d : Int) < 256) :
    bits .or .u32 ((a : Int) * 16777216) ((b : Int) * 65536) = ((a * 16777216 + b * 65536 : Nat) : Int) ∧
    bits .or .u32 ((a * 16777216 + b * 65536 : Nat) : Int) ((c : Int) * 256) = ((a * 16777216 + b * 65536 + c * 256 : Nat) : Int) ∧
    bits .or .u32 ((a * 16777216 + b * 65536 + c * 256 : Nat) : Int) (d : Int) = ((a * 16777216 + b * 65536 + c * 256 + d : Nat) : Int) := by
  refine ⟨?_, ?_, ?_⟩
  · rw [show (a : Int) * 16777216 = ((a * 16777216 : Nat) : Int) by omega, show (b : Int) * 65536 = ((b * 65536 : Nat) : Int) by omega, or_u32 _ _ (by omega) (by omega)]
    have := or_add a (b * 65536) 24 (by omega)
    rw [show a * 16777216 = 2 ^ 24 * a by omega, this]
  · rw [show (c : Int) * 256 = ((c * 256 : Nat) : Int) by omega, or_u32 _ _ (by omega) (by omega)]
    have := or_add (a * 256 + b) (c * 256) 16 (by omega)
    rw [show a * 16777216 + b * 65536 = 2 ^ 16 * (a * 256 + b) by omega, this]
  · rw [or_u32 _ _ (by omega) (by omega)]
    have := or_add (a * 65536 + b * 256 + c) d 8 (by omega)
    rw [show a * 16777216 + b * 65536 + c * 256 = 2 ^ 8 * (a * 65536 + b * 256 + c) by omega, this]
set_option maxRecDepth 100000 in
set_option maxHeartbeats 1600000 in
theorem written_any (n : Nat) (w : World) (hn : n < 4294967296) : Calls Tryd.prog 27 #[.int .u32 n] w fun r w' => r = .returned (.string ⟨(be4 n).toArray⟩) ∧ Below w.heap.size w w' := by
  have hz : (n : Int) < 4294967296 := by omega
  have hrow := heap_alloc_new w (.cells #[.int .u8 ((n : Int) / 16777216), .int .u8 ((n : Int) / 65536 % 256), .int .u8 ((n : Int) / 256 % 256), .int .u8 ((n : Int) % 256)] 5)
  have hcv : (convert 45 9 (.slice (some ⟨w.heap.size, 0, none⟩) 4 4)).run Tryd.prog (w.alloc (.cells #[.int .u8 ((n : Int) / 16777216), .int .u8 ((n : Int) / 65536 % 256), .int .u8 ((n : Int) / 256 % 256), .int .u8 ((n : Int) % 256)] 5)) = .ok (.string ⟨(be4 n).toArray⟩) (w.alloc (.cells #[.int .u8 ((n : Int) / 16777216), .int .u8 ((n : Int) / 65536 % 256), .int .u8 ((n : Int) / 256 % 256), .int .u8 ((n : Int) % 256)] 5)) :=
    run_convert_bytes_back (P := Tryd.prog) _ 45 9 5 ⟨w.heap.size, 0, none⟩ 4 (be4 n) Tryd.underlying45 Tryd.underlying5 Tryd.underlying9 (fun j hj => by
      have hadd : (⟨w.heap.size, 0, none⟩ : Addr).add j = ⟨w.heap.size, j, none⟩ := by unfold Addr.add; split <;> simp_all
      rw [hadd, cell_of_row _ _ j _ _ _ hrow]
      have h4 : j < 4 := by rw [be4_len] at hj; exact hj
      have e : ∀ m, (UInt8.ofNat (m % 256)).toNat = m % 256 := fun m => of_byte _ (Nat.mod_lt _ (by decide))
      simp only [be4_is]
      match j, h4 with
      | 0, _ => simp [e]; omega
      | 1, _ => simp [e]
      | 2, _ => simp [e]
      | 3, _ => simp [e])
  clear hrow
  go_enter Tryd.func27, Tryd.ntmps27
  go_wp2
  go_ret
  exact ⟨rfl, (Below.refl _ _).alloc (Nat.le_refl _) _⟩
set_option maxRecDepth 100000 in
set_option maxHeartbeats 1600000 in
theorem read_any (s : ByteArray) (w : World) (h : s.size = 4) : Calls Tryd.prog 36 #[.string s] w fun r w' => r = .returned (.int .u32 (num4 s.data.toList 0 : Nat)) ∧ Below w.heap.size w w' := by
  obtain ⟨x0, e0, l0, i0⟩ := byte_at s 0 (by omega) 0 rfl
  obtain ⟨x1, e1, l1, i1⟩ := byte_at s 1 (by omega) 1 rfl
  obtain ⟨x2, e2, l2, i2⟩ := byte_at s 2 (by omega) 2 rfl
  obtain ⟨x3, e3, l3, i3⟩ := byte_at s 3 (by omega) 3 rfl
  have HN : Hid (num4 s.data.toList 0 = x0 * 16777216 + x1 * 65536 + x2 * 256 + x3) := Lib.hid (by unfold num4; rw [e0, e1, e2, e3])
  obtain ⟨o1, o2, o3⟩ := or4 x0 x1 x2 x3 l0 l1 l2 l3
  rw [show ((x0 * 16777216 + x1 * 65536 : Nat) : Int) = (x0 : Int) * 16777216 + (x1 : Int) * 65536 by omega] at o1 o2
  rw [show ((x0 * 16777216 + x1 * 65536 + x2 * 256 : Nat) : Int) = (x0 : Int) * 16777216 + (x1 : Int) * 65536 + (x2 : Int) * 256 by omega] at o2 o3
  clear e0 e1 e2 e3 h
  go_enter Tryd.func36, Tryd.ntmps36
  go_wp2_with fail
  go_quiet (fail)
  rename_i nq
  have HB3 : Hid (Below w.heap.size w (w.drewN nq)) := Lib.hid ⟨rfl, rfl, rfl, Nat.le_refl _, fun _ _ => rfl⟩
  generalize w.drewN nq = w3 at HB3 ⊢
  go_wp2_with fail
  go_ret
  exact ⟨by rw [HN.out]; rfl, HB3.out⟩
end RF
end Go.Proofs.YtbklnijmalnnoaaDoor
