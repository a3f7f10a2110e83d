/- Rules, of the code and of the document. -/
import Derived.Test.YtkfddnkeoopfbaaDoorGlobIgn
import Derived.Test.YtkfddnkeoopfbaaDoorRef2Eq1
namespace Go.Proofs.YtkfddnkeoopfbaaDoor
open Go.RowKit Go.Lib
namespace GI
open GP GM GH NF
def ruE : List Rl → Nat → Nat × Nat
  | [], _ => (0, 0)
  | r :: rs, i => if (chkL r.2.data.toList).2 = 0 then ruE rs (i + 1) else (i, (chkL r.2.data.toList).2)
def rulesL (rs : List Rl) : Nat × Nat := if 100 < rs.length then (0, 2) else ruE rs 0
theorem rs_drop {rs : List Rl} {k : Nat} {r : Rl} (h : rs[k]? = some r) : rs.drop k = r :: rs.drop (k + 1) := by
  obtain ⟨h1, h2⟩ := List.getElem?_eq_some_iff.1 h
  rw [List.drop_eq_getElem_cons h1, h2]
set_option maxRecDepth 100000 in
set_option maxHeartbeats 3200000 in
theorem rules_any (ao : Option Addr) (c : Nat) (rs : List Rl) (w : World) (he : Env w) (hr : RulesAt w ao rs) (hn : rs.length ≤ 1048576) (hsz : ∀ r ∈ rs, r.2.size ≤ maxLen) :
    Calls Tryd.prog 8 #[.slice ao rs.length c] w (fun e w' => e = .returned (.tuple #[.int .i64 (rulesL rs).1, .int .i64 (rulesL rs).2]) ∧ Below w.heap.size w w') := by
  have He := Lib.hid he
  have HR := Lib.hid hr
  have Hsz := Lib.hid hsz
  clear he hr hsz
  by_cases h100 : 100 < rs.length
  · have hz : (100 : Int) < rs.length := by omega
    have HX : Hid (rulesL rs = (0, 2)) := Lib.hid (by unfold rulesL; rw [if_pos h100])
    go_enter Tryd.func8, Tryd.ntmps8
    go_wp2_with fail
    go_ret2
    exact ⟨by rw [HX.out]; rfl, Below.refl _ _⟩
  · have hz : ¬ (100 : Int) < rs.length := by omega
    have hx : rulesL rs = ruE rs 0 := by unfold rulesL; rw [if_neg h100]
    rw [hx]
    generalize hRR : ruE rs 0 = R
    have HRR := Lib.hid hRR
    clear hRR hx
    go_enter Tryd.func8, Tryd.ntmps8
    go_wp2_with fail
    go_loopw [13] (fun s13 wr => ∃ k : Nat, k ≤ rs.length ∧ s13 = .int .i64 k ∧ ruE (rs.drop k) k = R ∧ Below w.heap.size w wr) (fun s13 _ => rs.length - (Go.RowKit.intOf s13).toNat)
    case atStart => exact ⟨0, Nat.zero_le _, rfl, HRR.out, Below.refl _ _⟩
    case round =>
      obtain ⟨k, hk, rfl, hR, hb⟩ := hrel
      have Hb := Lib.hid hb
      by_cases hlt : k < rs.length
      · obtain ⟨r, hr⟩ : ∃ r, rs[k]? = some r := ⟨rs[k], List.getElem?_eq_getElem hlt⟩
        obtain ⟨g, o, rfl, hg, hc⟩ := HR.out (by omega)
        obtain ⟨d1, d2⟩ := hc k r hr
        have hz2 : (k : Int) < rs.length := by omega
        have hc1 : wr.cell? ⟨g, o + k * 2, none⟩ = some (.bool r.1) := by rw [hb.cell (p := ⟨g, o + k * 2, none⟩) hg]; exact d1
        have hc2 : wr.cell? ⟨g, o + k * 2 + 1, none⟩ = some (.string r.2) := by rw [hb.cell (p := ⟨g, o + k * 2 + 1, none⟩) hg]; exact d2
        have hal : Below wr.heap.size wr (wr.alloc (.cells #[.bool r.1, .string r.2] 31)) := (Below.refl _ _).alloc (Nat.le_refl _) _
        have cC := check_any r.2 _ (He.out.below (hb.trans (hal.mono hb.size))) (Hsz.out r (List.mem_of_getElem? hr))
        have Hal := Lib.hid (hb.trans (hal.mono hb.size))
        have q1 := World.cell?_alloc_at (w := wr) #[.bool r.1, .string r.2] 31 wr.heap.size 1 rfl
        rw [rs_drop hr, ruE] at hR
        clear hr d1 d2 hc hal hb
        cases h0 : decide ((chkL r.2.data.toList).2 = 0)
        · have h0' := of_decide_eq_false h0
          rw [if_neg h0'] at hR
          have hcb : ((((chkL r.2.data.toList).2 : Nat) : Int) == 0) = false := beq_eq_false_iff_ne.2 (by omega)
          clear h0 h0'
          generalize chkL r.2.data.toList = ch at hR hcb cC
          subst hR
          go_wp2_with fail
          refine cC.mono ?_
          rintro e w2 ⟨rfl, hb2⟩
          have Hb2 := Lib.hid (Hal.out.trans (hb2.mono Hal.out.size))
          clear hb2 cC
          go_wp2_with fail
          go_ret2
          exact ⟨rfl, Hb2.out⟩
        · have h0' := of_decide_eq_true h0
          rw [if_pos h0'] at hR
          have hcb : ((((chkL r.2.data.toList).2 : Nat) : Int) == 0) = true := beq_iff_eq.2 (by omega)
          have HN := Lib.hid hR
          clear h0 h0' hR
          generalize chkL r.2.data.toList = ch at hcb cC
          go_wp2_with fail
          refine cC.mono ?_
          rintro e w2 ⟨rfl, hb2⟩
          have Hb2 := Lib.hid (Hal.out.trans (hb2.mono Hal.out.size))
          clear hb2 cC
          go_wp2_with fail
          go_roundw
          case rel => exact ⟨k + 1, by omega, by go_num, HN.out, Hb2.out⟩
          case measure => simp [Go.RowKit.intOf]; omega
      · have hz2 : ¬ (k : Int) < rs.length := by omega
        rw [List.drop_of_length_le (by omega), ruE] at hR
        subst hR
        clear hb
        go_wp2_with fail
        go_ret2
        exact ⟨rfl, Hb.out⟩
set_option maxRecDepth 100000 in
set_option maxHeartbeats 3200000 in
theorem rrules_any (ao : Option Addr) (c : Nat) (rs : List Rl) (w : World) (hr : RulesAt w ao rs) (hn : rs.length ≤ 1048576) (hsz : ∀ r ∈ rs, r.2.size ≤ maxLen) :
    Calls Tryd.prog 9 #[.slice ao rs.length c] w (fun e w' => e = .returned (.tuple #[.int .i64 (rulesL rs).1, .int .i64 (rulesL rs).2]) ∧ w = w') := by
  have HR := Lib.hid hr
  have Hsz := Lib.hid hsz
  clear hr hsz
  by_cases h100 : 100 < rs.length
  · have hz : (100 : Int) < rs.length := by omega
    have HX : Hid (rulesL rs = (0, 2)) := Lib.hid (by unfold rulesL; rw [if_pos h100])
    go_enter Tryd.func9, Tryd.ntmps9
    go_wp2_with fail
    go_ret2
    exact ⟨by rw [HX.out]; rfl, rfl⟩
  · have hz : ¬ (100 : Int) < rs.length := by omega
    have hx : rulesL rs = ruE rs 0 := by unfold rulesL; rw [if_neg h100]
    rw [hx]
    generalize hRR : ruE rs 0 = R
    have HRR := Lib.hid hRR
    clear hRR hx
    go_enter Tryd.func9, Tryd.ntmps9
    go_wp2_with fail
    go_loop [4] (fun s4 => ∃ k : Nat, k ≤ rs.length ∧ s4 = .int .i64 k ∧ ruE (rs.drop k) k = R) (fun s4 => rs.length - (Go.RowKit.intOf s4).toNat)
    case atStart => exact ⟨0, Nat.zero_le _, rfl, HRR.out⟩
    case round =>
      obtain ⟨k, hk, rfl, hR⟩ := hrel
      by_cases hlt : k < rs.length
      · obtain ⟨r, hr⟩ : ∃ r, rs[k]? = some r := ⟨rs[k], List.getElem?_eq_getElem hlt⟩
        obtain ⟨g, o, rfl, hg, hc⟩ := HR.out (by omega)
        obtain ⟨d1, d2⟩ := hc k r hr
        have hz2 : (k : Int) < rs.length := by omega
        have hrs := Hsz.out r (List.mem_of_getElem? hr)
        have cC := RG.rcheck_any r.2 w (by unfold maxLen at hrs; omega)
        unfold RG.PairPost at cC
        rw [RG.chk_eq] at cC
        rw [rs_drop hr, ruE] at hR
        clear hr d1 hc hrs
        cases h0 : decide ((chkL r.2.data.toList).2 = 0)
        · have h0' := of_decide_eq_false h0
          rw [if_neg h0'] at hR
          have hcb : ((((chkL r.2.data.toList).2 : Nat) : Int) == 0) = false := beq_eq_false_iff_ne.2 (by omega)
          clear h0 h0'
          generalize chkL r.2.data.toList = ch at hR hcb cC
          subst hR
          go_wp2_with fail
          refine cC.mono ?_
          rintro e w2 ⟨rfl, rfl⟩
          clear cC
          go_wp2_with fail
          go_ret2
          exact ⟨rfl, rfl⟩
        · have h0' := of_decide_eq_true h0
          rw [if_pos h0'] at hR
          have hcb : ((((chkL r.2.data.toList).2 : Nat) : Int) == 0) = true := beq_iff_eq.2 (by omega)
          have HN := Lib.hid hR
          clear h0 h0' hR
          generalize chkL r.2.data.toList = ch at hcb cC
          go_wp2_with fail
          refine cC.mono ?_
          rintro e w2 ⟨rfl, rfl⟩
          clear cC
          go_wp2_with fail
          go_round
          case rel => exact ⟨k + 1, by omega, by go_num, HN.out⟩
          case measure => simp [Go.RowKit.intOf]; omega
      · have hz2 : ¬ (k : Int) < rs.length := by omega
        rw [List.drop_of_length_le (by omega), ruE] at hR
        subst hR
        go_wp2_with fail
        go_ret2
        exact ⟨rfl, rfl⟩
end GI
end Go.Proofs.YtkfddnkeoopfbaaDoor
