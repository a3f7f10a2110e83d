/- Layer 4: the statements' own guard, and Same. -/
import Derived.Test.YtphblgpimphgiaaDoorHashSum
import Derived.Test.YtphblgpimphgiaaDoorHashRoll
namespace Go.Proofs.YtphblgpimphgiaaDoor
open Go.RowKit Go.Lib
namespace HQ
open HP HS HR

def abcS : ByteArray := ⟨#[0xba, 0x78, 0x16, 0xbf, 0x8f, 0x01, 0xcf, 0xea, 0x41, 0x41, 0x40, 0xde, 0x5d, 0xae, 0x22, 0x23, 0xb0, 0x03, 0x61, 0xa3, 0x96, 0x17, 0x7a, 0x9c, 0xb4, 0x10, 0xff, 0x61, 0xf2, 0x00, 0x15, 0xad]⟩
theorem crc_digits : crcL [49, 50, 51, 52, 53, 54, 55, 56, 57] = 3421780262 := by decide +kernel
set_option maxRecDepth 100000 in
set_option maxHeartbeats 1600000 in
theorem awake_any (w : World) (he : Env w) : Calls Tryd.prog 8 #[] w fun r w' => r = .returned (.bool true) ∧ Below w.heap.size w w' := by
  have cS : Calls Tryd.prog 9 #[.string ⟨#[97, 98, 99]⟩] w fun r w' => r = .returned (.string abcS) ∧ Below w.heap.size w w' := by
    have h := sum_any ⟨#[97, 98, 99]⟩ w he (by decide)
    have e : shaL (⟨#[97, 98, 99]⟩ : ByteArray).data.toList = _ := sha_abc
    rw [e] at h
    exact h
  have cC : ∀ W, Env W → Calls Tryd.prog 13 #[.string ⟨#[49, 50, 51, 52, 53, 54, 55, 56, 57]⟩] W fun r w' => r = .returned (.int .u32 3421780262) ∧ W = w' := fun W hW => by
    have h := crc_any ⟨#[49, 50, 51, 52, 53, 54, 55, 56, 57]⟩ W hW (by decide)
    have e : crcL (⟨#[49, 50, 51, 52, 53, 54, 55, 56, 57]⟩ : ByteArray).data.toList = _ := crc_digits
    rw [e] at h
    exact h
  have h32 : abcS.size = 32 := rfl
  have hi0 : ∀ W, (Instr.index 9 (.string abcS) (.int .i64 0)).run Tryd.prog W = .ok (.int .u8 186) W := fun W => by
    rw [run_index_string W 9 abcS .i64 0 Tryd.underlying9, dif_pos (by decide)]
    rfl
  have hi31 : ∀ W, (Instr.index 9 (.string abcS) (.int .i64 31)).run Tryd.prog W = .ok (.int .u8 173) W := fun W => by
    rw [run_index_string W 9 abcS .i64 31 Tryd.underlying9, dif_pos (by decide)]
    rfl
  have CC := Lib.hid cC
  have HE := Lib.hid he
  clear cC he
  go_enter Tryd.func8, Tryd.ntmps8
  go_wp2_with fail
  refine cS.mono ?_
  rintro r w2 ⟨rfl, hb⟩
  have HB := Lib.hid hb
  clear hb cS
  go_wp2_with (go_at_call 13; refine (CC.out _ (HE.out.below HB.out)).mono ?_; rintro r w3 ⟨rfl, rfl⟩)
  go_ret
  exact ⟨rfl, HB.out⟩
end HQ
end Go.Proofs.YtphblgpimphgiaaDoor
