/- The walk of GlobChecks: it answers true, for every text of at most 1048576 bytes. -/
import Derived.Test.YtdnncacplnfllaaDoorRef2Eq2
import Derived.Test.YtdnncacplnfllaaDoorRef2Lit
import Derived.Test.YtdnncacplnfllaaDoorGlobLit
import Derived.Test.YtdnncacplnfllaaDoorGlobAwake
import Derived.Test.YtdnncacplnfllaaDoorGlobMatch
namespace Go.Proofs.YtdnncacplnfllaaDoor
open Go.RowKit Go.Lib
namespace GL
open GP GM GH NF RQ LitN RG

theorem text_same {a b : ByteArray} (h : a.data.toList = b.data.toList) : (a.toList == b.toList) = true := by rw [Lib.toList_data, Lib.toList_data, h]; simp
set_option maxRecDepth 100000 in
set_option maxHeartbeats 1600000 in
theorem checks_law (q : ByteArray) (w : World) (he : Env w) (hq : q.size ≤ 1048576) :
    Calls Tryd.prog 3 #[.string q] w (Ans true w) := by
  have cA := awake_any w he
  have He := Lib.hid he
  have hqm : q.size ≤ maxLen := Nat.le_trans hq (of_decide_eq_true rfl)
  clear he
  go_enter Tryd.func3, Tryd.ntmps3
  go_wp2_with fail
  refine cA.mono ?_
  rintro e w1 ⟨rfl, hb1⟩
  have Hb1 := Lib.hid hb1
  have cC := check_any q w1 (He.out.below hb1) hqm
  clear hb1 cA
  have cR := fun W => rcheck_any q W (by omega)
  rw [chk_eq] at cR
  generalize chkL q.data.toList = ch at cC cR
  have e1 : (((ch.1 : Nat) : Int) == ((ch.1 : Nat) : Int)) = true := by simp
  have e2 : (((ch.2 : Nat) : Int) == ((ch.2 : Nat) : Int)) = true := by simp
  go_wp2_with fail
  refine cC.mono ?_
  rintro e w2 ⟨rfl, hb2⟩
  have Hb2 := Lib.hid (Hb1.out.trans (hb2.mono Hb1.out.size))
  have cR2 := cR w2
  clear hb2 cC cR
  go_wp2_with fail
  refine cR2.mono ?_
  rintro e w3 ⟨rfl, rfl⟩
  have cL := literal_any q w2 (He.out.below Hb2.out) hqm
  clear cR2
  go_wp2_with fail
  refine cL.mono ?_
  rintro e w4 ⟨t, rfl, ht, hb4⟩
  have Hb4 := Lib.hid (Hb2.out.trans (hb4.mono Hb2.out.size))
  have cM := rliteral_any q w4 hq
  clear hb4 cL
  go_wp2_with fail
  refine cM.mono ?_
  rintro e w5 ⟨t2, rfl, ht2, hb5⟩
  have Hb5 := Lib.hid (Hb4.out.trans (hb5.mono Hb4.out.size))
  have hte := text_same (ht.trans ht2.symm)
  clear hb5 cM ht ht2
  go_wp2_with fail
  go_ret
  exact ⟨rfl, Hb5.out⟩
end GL
end Go.Proofs.YtdnncacplnfllaaDoor
