/- Layer 5: the contracts of the document's One, All and Join. -/
import Derived.Test.YtiggdojppfblkaaGreatDoorMg1
import Derived.Test.YtiggdojppfblkaaGreatDoorRecRefN
import Derived.Test.YtiggdojppfblkaaGreatDoorRecMore
namespace Go.Proofs.YtiggdojppfblkaaGreatDoor
open Go.RowKit Go.Lib Go.BigFrame
namespace RQ
open HP HS RP OM

def txt (l : List UInt8) : Value := .string ⟨l.toArray⟩
def oneV (l : List UInt8) : Ending := .returned (.tuple #[txt (oneL l).2, .int .i64 ((oneL l).1 : Nat)])
set_option maxRecDepth 100000 in
set_option maxHeartbeats 1600000 in
theorem rone_any (CC : CrcOf) (l : List UInt8) (w : World) (hm : l.length ≤ 9223372036854775807) :
    Calls Tryz.prog 44 #[txt l] w fun r w' => r = oneV l ∧ Below w.heap.size w w' := by
  have cN := rnext_any CC l w hm
  unfold nextV at cN
  unfold txt
  rcases next_cases l with ⟨p, r, hn⟩ | ⟨e, hn, he⟩
  · rw [hn] at cN
    simp only at cN
    cases r with
    | nil =>
      have HV : Hid (oneV l = .returned (.tuple #[txt p, .int .i64 0])) := Lib.hid (by unfold oneV oneL; rw [hn]; rfl)
      have CN := Lib.hid cN
      clear cN hn
      go_enter Tryz.func44, Tryz.ntmps44
      go_wp2_with (go_at_call 79; refine CN.out.mono ?_; rintro r w1 ⟨rfl, hb1⟩; have HB1 := Lib.hid hb1; clear hb1)
      go_ret2
      exact ⟨HV.out.symm, HB1.out⟩
    | cons x r =>
      have HV : Hid (oneV l = .returned (.tuple #[.string ⟨#[]⟩, .int .i64 32])) := Lib.hid (by unfold oneV oneL; rw [hn]; rfl)
      have CN := Lib.hid cN
      obtain ⟨T, hT⟩ : ∃ T : ByteArray, ⟨(x :: r).toArray⟩ = T := ⟨_, rfl⟩
      have hTe : T.toList.isEmpty = false := by rw [← hT, Lib.toList_data]; rfl
      rw [hT] at CN
      clear cN hn hT
      go_enter Tryz.func44, Tryz.ntmps44
      go_wp2_with (go_at_call 79; refine CN.out.mono ?_; rintro r w1 ⟨rfl, hb1⟩; have HB1 := Lib.hid hb1; clear hb1)
      go_ret2
      exact ⟨by rw [HV.out]; rfl, HB1.out⟩
  · rw [hn] at cN
    simp only at cN
    have HV : Hid (oneV l = .returned (.tuple #[.string ⟨#[]⟩, .int .i64 ((e + 1 : Nat) : Int)])) := Lib.hid (by unfold oneV oneL; rw [hn]; rfl)
    obtain ⟨z, hz⟩ : ∃ z : Int, ((e + 1 : Nat) : Int) = z := ⟨_, rfl⟩
    have hz0 : (z == 0) = false := by simp; omega
    have hz1 : z ≠ 0 := by omega
    rw [hz] at HV cN
    have CN := Lib.hid cN
    clear cN hn hz
    go_enter Tryz.func44, Tryz.ntmps44
    go_wp2_with (go_at_call 79; refine CN.out.mono ?_; rintro r w1 ⟨rfl, hb1⟩; have HB1 := Lib.hid hb1; clear hb1)
    go_ret2
    exact ⟨HV.out.symm, HB1.out⟩
end RQ
end Go.Proofs.YtiggdojppfblkaaGreatDoor
