/- Layer 14: the statements' own guard. -/
import Derived.Test.YtmpmmebmhffaeaaDoorQDlApply
set_option linter.all false
set_option maxRecDepth 100000
set_option maxHeartbeats 25600000
namespace Go.Proofs.YtmpmmebmhffaeaaDoor
open Go.RowKit Go.Lib Go.BigFrame Go.Maps
namespace DM
open OM DL HP HS

theorem aw_sign : (signL [97, 98, 99, 100, 97, 98] 4).length = 2 := by decide +kernel
theorem aw_make : makeL [120, 97, 98, 99, 100, 97, 98] (signL [97, 98, 99, 100, 97, 98] 4) 4 = [(0, 0, [120]), (0, 2, [])] := by decide +kernel
theorem aw_apply : applyL [97, 98, 99, 100, 97, 98] 4 [] [(0, 0, [120]), (0, 2, [])] = ([120, 97, 98, 99, 100, 97, 98], 0) := by decide +kernel
theorem sign_ok {base : List UInt8} {sz : Nat} (hb : base.length ≤ 1048576) (hz : sz ≤ 65536) : ∀ b ∈ signL base sz, BkOk b := fun b h => by
  unfold signL at h
  obtain ⟨i, hi, rfl⟩ := List.mem_map.1 h
  unfold BkOk tellB blockAt
  refine ⟨weak_lt _, by rw [sha_len]; decide, ?_, ?_⟩
  · simp only
    omega
  · simp only
    rw [List.length_take, List.length_drop]
    omega
set_option maxRecDepth 100000 in
set_option maxHeartbeats 3200000 in
theorem awake_any (w : World) (he : HQ.Env w) : Calls Tryd.prog 6 #[] w fun r w' => r = .returned (.bool true) ∧ Below w.heap.size w w' := by
  have CS : Hid (Calls Tryd.prog 7 #[.string ⟨#[97, 98, 99, 100, 97, 98]⟩, .int .i64 4] w fun r w' => ∃ v, r = .returned (.tuple #[v, .int .i64 0]) ∧ w'.ownsRow w.heap.size 33 3 v (signL [97, 98, 99, 100, 97, 98] 4).length (blkC (signL [97, 98, 99, 100, 97, 98] 4)) ∧ Below w.heap.size w w') := Lib.hid (sign_any ⟨#[97, 98, 99, 100, 97, 98]⟩ 4 w he (by decide) (by decide) (by decide))
  have CM : Hid (∀ W ao c, Below w.heap.size w W → LayB W ao (signL [97, 98, 99, 100, 97, 98] 4) → Calls Tryd.prog 9 #[.string ⟨#[120, 97, 98, 99, 100, 97, 98]⟩, .slice ao 2 c, .int .i64 4] W fun r w' => ∃ v, r = .returned (.tuple #[v, .int .i64 0]) ∧ w'.ownsRow W.heap.size 46 3 v 2 (opC [(0, 0, [120]), (0, 2, [])]) ∧ Below W.heap.size W w') := Lib.hid (fun W ao c hW hl => by
    have := make_any ⟨#[120, 97, 98, 99, 100, 97, 98]⟩ 4 (signL [97, 98, 99, 100, 97, 98] 4) ao c W (he.below hW) hl (by decide) (by decide) (by decide) (by rw [aw_sign]; decide) (sign_ok (by decide) (by decide))
    rw [aw_sign] at this
    rw [show (⟨#[120, 97, 98, 99, 100, 97, 98]⟩ : ByteArray).data.toList = [120, 97, 98, 99, 100, 97, 98] from rfl, aw_make] at this
    exact this)
  have CA : Hid (∀ W ao c, LayO W ao [(0, 0, [120]), (0, 2, [])] → Calls Tryd.prog 12 #[.string ⟨#[97, 98, 99, 100, 97, 98]⟩, .int .i64 4, .slice ao 2 c] W fun r w' => r = .returned (.tuple #[.string ⟨#[120, 97, 98, 99, 100, 97, 98]⟩, .int .i64 0]) ∧ Below W.heap.size W w') := Lib.hid (fun W ao c hl => by
    have := apply_any ⟨#[97, 98, 99, 100, 97, 98]⟩ 4 [(0, 0, [120]), (0, 2, [])] ao c W hl (by decide) (by decide) (by decide) (by decide) (by intro x hx; simp at hx; rcases hx with rfl | rfl <;> decide)
    rw [show (⟨#[97, 98, 99, 100, 97, 98]⟩ : ByteArray).data.toList = [97, 98, 99, 100, 97, 98] from rfl, aw_apply] at this
    exact this)
  have CN : Hid (∀ W ao c, LayO W ao [(0, 0, [120]), (0, 2, [])] → Calls Tryd.prog 14 #[.slice ao 2 c] W fun r w' => r = .returned (.int .i64 1) ∧ Below W.heap.size W w') := Lib.hid (fun W ao c hl => new_any [(0, 0, [120]), (0, 2, [])] ao c W hl (by decide) (by decide))
  clear he
  go_enter Tryd.func6, Tryd.ntmps6
  repeat (first | go_skip | go_guarded | go_step | go_upon)
  refine CS.out.mono ?_
  rintro r w1 ⟨v, rfl, ho1, hb1⟩
  obtain ⟨a1, c1, rfl, hl1⟩ := lay3_own ho1
  rw [aw_sign]
  simp only []
  have HL1 := Lib.hid hl1
  have HB1 := Lib.hid hb1
  clear ho1 hl1 hb1
  repeat (first | go_skip | go_guarded | go_step | go_upon)
  refine (CM.out _ a1 c1 HB1.out HL1.out).mono ?_
  rintro r w2 ⟨v, rfl, ho2, hb2⟩
  obtain ⟨a2, c2, rfl, hl2⟩ := lay3_own (L := [((0 : Int), (0 : Int), ([120] : List UInt8)), (0, 2, [])]) ho2
  simp only []
  have HL2 := Lib.hid hl2
  have HB2 := Lib.hid (HB1.out.trans (hb2.mono HB1.out.size))
  clear ho2 hl2 hb2
  repeat (first | go_skip | go_guarded | go_step | go_upon)
  refine (CA.out _ a2 c2 HL2.out).mono ?_
  rintro r w3 ⟨rfl, hb3⟩
  simp only []
  have HL3 := Lib.hid (HL2.out.below hb3)
  have HB3 := Lib.hid (HB2.out.trans (hb3.mono HB2.out.size))
  clear hb3
  have CN3 := Lib.hid (CN.out w3 a2 c2 HL3.out)
  repeat (first | go_skip | go_guarded | go_step | go_upon)
  refine CN3.out.mono ?_
  rintro r w4 ⟨rfl, hb4⟩
  simp only []
  have HB4 := Lib.hid (HB3.out.trans (hb4.mono HB3.out.size))
  clear hb4
  repeat (first | go_skip | go_guarded | go_step | go_upon)
  go_ret
  exact ⟨rfl, HB4.out⟩
end DM
end Go.Proofs.YtmpmmebmhffaeaaDoor
