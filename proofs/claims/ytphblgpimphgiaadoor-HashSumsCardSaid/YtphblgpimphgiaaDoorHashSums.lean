/- Layer 4: the walk of HashSums, with the document's Sum. -/
import Derived.Test.YtphblgpimphgiaaDoorHashRsum
import Derived.Test.YtphblgpimphgiaaDoorHashSum
import Derived.Test.YtphblgpimphgiaaDoorHashAwake
import Derived.Lib.QuietBelow
import Derived.BigQuiet
namespace Go.Proofs.YtphblgpimphgiaaDoor
open Go.RowKit Go.Lib Go.BigFrame
namespace HX
open HP HS HR HQ

set_option maxRecDepth 100000 in
set_option maxHeartbeats 1600000 in
theorem rSum_any (s : ByteArray) (w : World) (hs : s.size ≤ 400) :
    Calls Tryd.prog 10 #[.string s] w fun r w' => r = .returned (.string ⟨(shaL s.data.toList).toArray⟩) ∧ Below w.heap.size w w' := by
  go_enter Tryd.func10, Tryd.ntmps10
  go_wp2_with (first | (go_at_call 23; refine (rtable_any w).mono ?_; rintro r w1 ⟨vh, vk, rfl, hh, hk, hb⟩; have HH := Lib.hid hh; have HK := Lib.hid hk; have HB := Lib.hid hb; clear hh hk hb) | (go_at_call 24; refine (rsum_any s vh vk w1 hs HH.out HK.out).mono ?_; rintro r w2 ⟨rfl, hb2⟩; have HB2 := Lib.hid hb2; clear hb2))
  go_ret
  exact ⟨rfl, Below.trans HB.out (HB2.out.mono HB.out.size)⟩
end HX
namespace HQ
open HP HS HR

set_option maxRecDepth 100000 in
set_option maxHeartbeats 1600000 in
theorem sums_any (s : ByteArray) (w : World) (he : Env w) (hs : s.size ≤ maxLen) :
    Calls Tryd.prog 3 #[.string s] w fun r w' => r = .returned (.bool true) ∧ Below w.heap.size w w' := by
  have cA := awake_any w he
  have HE := Lib.hid he
  have hml : s.size ≤ 9223372036854775807 := by unfold maxLen at hs; omega
  clear he hs
  by_cases h4 : s.size ≤ 400
  · obtain ⟨H, hH⟩ : ∃ H : ByteArray, H = ⟨(shaL s.data.toList).toArray⟩ := ⟨_, rfl⟩
    have hHH : (H.toList == H.toList) = true := by simp
    go_enter Tryd.func3, Tryd.ntmps3
    go_wp2_with fail
    refine cA.mono ?_
    rintro r w2 ⟨rfl, hb⟩
    have HB := Lib.hid hb
    have hz4 : (s.size : Int) ≤ 400 := by omega
    have C1 : Hid (∀ W, Below w.heap.size w W → Calls Tryd.prog 9 #[.string s] W fun e w'' => e = .returned (.string H) ∧ Below w.heap.size w w'') := Lib.hid (fun W hW => (sum_any s W (HE.out.below hW) (by omega)).mono fun e w' h => ⟨by rw [hH]; exact h.1, Below.trans hW (h.2.mono hW.size)⟩)
    have C2 : Hid (∀ W, Below w.heap.size w W → Calls Tryd.prog 10 #[.string s] W fun e w'' => e = .returned (.string H) ∧ Below w.heap.size w w'') := Lib.hid (fun W hW => (HX.rSum_any s W h4).mono fun e w' h => ⟨by rw [hH]; exact h.1, Below.trans hW (h.2.mono hW.size)⟩)
    clear hb hH cA
    go_wp2_with (first | (go_at_call 9; refine (C1.out _ HB.out).mono ?_; rintro r w3 ⟨rfl, hb3⟩; have HB3 := Lib.hid hb3; clear hb3) | (go_at_call 10; refine (C2.out _ HB3.out).mono ?_; rintro r w4 ⟨rfl, hb4⟩; have HB4 := Lib.hid hb4; clear hb4))
    go_ret
    exact ⟨rfl, HB4.out⟩
  · go_enter Tryd.func3, Tryd.ntmps3
    go_wp2_with fail
    refine cA.mono ?_
    rintro r w2 ⟨rfl, hb⟩
    have HB := Lib.hid hb
    have hz4 : ¬ (s.size : Int) ≤ 400 := by omega
    clear hb cA
    go_wp2_with fail
    go_ret
    exact ⟨rfl, HB.out⟩
end HQ
end Go.Proofs.YtphblgpimphgiaaDoor
