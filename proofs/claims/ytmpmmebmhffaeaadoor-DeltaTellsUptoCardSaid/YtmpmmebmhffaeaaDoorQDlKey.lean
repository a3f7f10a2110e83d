/- Layer 14: the keys of the two maps by which blocks are found. -/
import Derived.Test.YtmpmmebmhffaeaaDoorQDlSign
import Derived.Test.YtmpmmebmhffaeaaDoorQDla
set_option linter.all false
set_option maxRecDepth 100000
set_option maxHeartbeats 25600000
namespace Go.Proofs.YtmpmmebmhffaeaaDoor
open Go.RowKit Go.Lib Go.BigFrame Go.Maps Go.WideMaps
namespace DM
open OM DL HP HS

theorem laidOut : laidOutB Tryd.prog = true := by kernel_rfl
theorem rowW : 90 < Tryd.prog.types.size := of_decide_eq_true (by kernel_rfl)
theorem rowB : 33 < Tryd.prog.types.size := of_decide_eq_true (by kernel_rfl)
theorem wideW : (match Tryd.prog.underlying 90 with | some (.array _ _) | some (.struct _) => true | _ => false) = true := by kernel_rfl
theorem wideB : (match Tryd.prog.underlying 33 with | some (.array _ _) | some (.struct _) => true | _ => false) = true := by kernel_rfl
set_option maxRecDepth 100000 in
theorem lawW : Keyed Tryd.prog 90 := Keyed.of_law (deep_law_laid laidOut (m := 2) (by omega) rowW (by kernel_rfl) wideW)
set_option maxRecDepth 100000 in
theorem lawB : Keyed Tryd.prog 33 := Keyed.of_law (deep_law_laid laidOut (m := 2) (by omega) rowB (by kernel_rfl) wideB)
/-- By what a block is looked for ahead of its fingerprint. -/
def wkV (k : Nat) (n : Int) : Value := .agg #[.int .u32 (k : Nat), .int .i64 n]
theorem wkV_inj {k j : Nat} {n m : Int} (h : wkV k n = wkV j m) : k = j ∧ n = m := by
  unfold wkV at h
  injection h with h
  injection h with h
  injection h with h0 h
  injection h with h1 h
  injection h0 with _ h0
  injection h1 with _ h1
  exact ⟨Int.ofNat.inj h0, h1⟩
theorem wf32 {k : Nat} (h : k < 4294967296) : (Lit.int .u32 (k : Int)).wf = true := by
  simp [Lit.wf, IntKind.min, IntKind.max, IntKind.bits, IntKind.signed]
  omega
theorem wf64 {n : Int} (h0 : -9223372036854775808 ≤ n) (h1 : n ≤ 9223372036854775807) : (Lit.int .i64 n).wf = true := by
  simp [Lit.wf, IntKind.min, IntKind.max, IntKind.bits, IntKind.signed]
  omega
theorem keyTW : Tryd.prog.keyType 90 = true := by kernel_rfl
theorem keyTB : Tryd.prog.keyType 33 = true := by kernel_rfl
theorem types_succ : ∃ m, Tryd.prog.types.size = m + 1 := ⟨Tryd.prog.types.size - 1, by have := rowW; omega⟩
theorem cellsW : Tryd.prog.cellsOf 90 = 2 := by kernel_rfl
theorem cellsB : Tryd.prog.cellsOf 33 = 3 := by kernel_rfl
theorem cellsU : Tryd.prog.cellsOf 31 = 1 := by kernel_rfl
theorem cellsI : Tryd.prog.cellsOf 3 = 1 := by kernel_rfl
theorem cellsS : Tryd.prog.cellsOf 9 = 1 := by kernel_rfl
set_option maxRecDepth 100000 in
theorem keyW (k : Nat) (n : Int) (hk : k < 4294967296) (h0 : -9223372036854775808 ≤ n) (h1 : n ≤ 9223372036854775807) : ∃ kl, keyOf Tryd.prog 90 (wkV k n) = some kl := by
  have a := wf32 hk
  have b := wf64 h0 h1
  obtain ⟨m, hm⟩ := types_succ
  unfold keyOf wkV
  rw [Tryd.underlying90]
  simp only
  rw [if_pos (by simp [keyTW, Value.formed, Tryd.underlying90, cellsW]), hm]
  unfold Program.keyLits
  simp only [Tryd.underlying90, Value.cells]
  rw [if_pos (by rw [cellsW]; exact ⟨rfl, by simp⟩)]
  simp [Program.keyLits, cellsU, cellsI, Tryd.underlying31, Tryd.underlying3, a, b]
set_option maxRecDepth 100000 in
theorem keyB (b : Bk) (hk : b.1 < 4294967296) (hs : b.2.1.length ≤ maxLen) (h0 : -9223372036854775808 ≤ b.2.2) (h1 : b.2.2 ≤ 9223372036854775807) : ∃ kl, keyOf Tryd.prog 33 (bkV b) = some kl := by
  have a := wf32 hk
  have c := wf64 h0 h1
  have hs2 : (⟨b.2.1.toArray⟩ : ByteArray).size ≤ maxLen := by simpa [Lib.size_eq] using hs
  obtain ⟨m, hm⟩ := types_succ
  unfold keyOf bkV
  rw [Tryd.underlying33]
  simp only
  rw [if_pos (by simp [keyTB, Value.formed, Tryd.underlying33, cellsB]), hm]
  unfold Program.keyLits
  simp only [Tryd.underlying33, Value.cells]
  rw [if_pos (by rw [cellsB]; exact ⟨rfl, by simp⟩)]
  simp [Program.keyLits, cellsU, cellsI, cellsS, Tryd.underlying31, Tryd.underlying3, Tryd.underlying9, a, c, hs2]
end DM
end Go.Proofs.YtmpmmebmhffaeaaDoor
