/- Layer 12: awake. -/
import Derived.Test.YtmpmmebmhffaeaaGreatDoorQRcC
set_option linter.all false
set_option maxRecDepth 100000
set_option maxHeartbeats 25600000
namespace Go.Proofs.YtmpmmebmhffaeaaGreatDoor
open Go.RowKit Go.Lib Go.Maps Go.BigFrame Go.Sort
namespace RC
open OM TP TM TR TG TW NP

def oneF (d : UInt8) : List Nd := [⟨[120], 1, [d], 0⟩]
theorem tree49 : treeB (oneF 49) = true := by decide +kernel
theorem tree50 : treeB (oneF 50) = true := by decide +kernel
theorem items_aw : itemsL [] (valP (oneF 49) []) (valP (oneF 50) []) (valP (oneF 49) []) = [([120], 2)] := by decide +kernel
theorem agreed_aw : agreedL (valP (oneF 49) []) (valP (oneF 50) []) (valP (oneF 50) []) = [root, ⟨[120], 1, [50], 0⟩] := by decide +kernel
def OnePost (d : UInt8) (w : World) (r : Ending) (w' : World) : Prop := ∃ g, r = .returned (.slice (some ⟨g, 0, none⟩) 1 1) ∧ In w' (some ⟨g, 0, none⟩) 1 (oneF d) ∧ Below w.heap.size w w'
set_option maxRecDepth 100000 in
theorem one_any (d : UInt8) (w : World) : Calls Tryz.prog 12 #[.string ⟨#[d]⟩] w (OnePost d w) := by
  go_enter Tryz.func12, Tryz.ntmps12
  repeat (first | go_skip | go_guarded | go_step | go_upon)
  go_ret
  refine ⟨w.heap.size, rfl, ⟨?_, (fun e => by cases e), by simp [oneF], fun n hn => ?_, by simp [oneF, maxLen]⟩, (Below.refl _ _).alloc (Nat.le_refl _) _⟩
  · have h := own_new w w.heap.size (Nat.le_refl _) ⟨[120], 1, [d], 0⟩ (.string ⟨#[120]⟩) (.string ⟨#[d]⟩) rfl rfl
    obtain ⟨ao, c, e, hl⟩ := lay_own (ts := oneF d) (by simpa [oneF, nodesC] using h)
    injection e with e1
    rw [e1]
    exact hl
  · simp [oneF] at hn
    subst hn
    simp [maxLen]
set_option maxRecDepth 100000 in
set_option maxHeartbeats 6400000 in
theorem awake_any (w : World) (he : NF.Env w) : Calls Tryz.prog 4 #[] w fun r w' => r = .returned (.bool true) ∧ Below w.heap.size w w' := by
  have HE := Lib.hid he
  clear he
  go_enter Tryz.func4, Tryz.ntmps4
  repeat (first | go_skip | go_guarded | go_step | go_upon)
  refine (one_any 49 _).mono ?_
  rintro r w1 ⟨g1, rfl, i1, b1⟩
  simp only []
  have B1 : Below w.heap.size w w1 := b1
  repeat (first | go_skip | go_guarded | go_step | go_upon)
  refine (one_any 50 _).mono ?_
  rintro r w2 ⟨g2, rfl, i2, b2⟩
  simp only []
  have B2 : Below w.heap.size w w2 := Below.trans B1 (b2.mono B1.size)
  repeat (first | go_skip | go_guarded | go_step | go_upon)
  refine (one_any 49 _).mono ?_
  rintro r w3 ⟨g3, rfl, i3, b3⟩
  simp only []
  have B3 : Below w.heap.size w w3 := Below.trans B2 (b3.mono B2.size)
  repeat (first | go_skip | go_guarded | go_step | go_upon)
  have CI := itemsAll_any (oneF 49) (oneF 50) (oneF 49) (some ⟨g1, 0, none⟩) (some ⟨g2, 0, none⟩) (some ⟨g3, 0, none⟩) 1 1 1 w3 (HE.out.below B3) ((i1.below b2).below b3) (i2.below b3) i3
  unfold ItemsAns at CI
  rw [show all3 (oneF 49) (oneF 50) (oneF 49) = true by unfold all3; rw [tree49, tree50]; rfl, items_aw] at CI
  simp only [if_true] at CI
  refine (show Calls Tryz.prog 6 #[.slice (some ⟨g1, 0, none⟩) 1 1, .slice (some ⟨g2, 0, none⟩) 1 1, .slice (some ⟨g3, 0, none⟩) 1 1] w3 _ from CI).mono ?_
  rintro r w4 ⟨u, rfl, ho, b4⟩
  simp only []
  have B4 : Below w.heap.size w w4 := Below.trans B3 (b4.mono B3.size)
  have HO := Lib.hid ho
  repeat (first | go_skip | go_guarded | go_step | go_upon)
  refine (one_any 49 _).mono ?_
  rintro r w5 ⟨g5, rfl, i5, b5⟩
  simp only []
  have B5 : Below w.heap.size w w5 := Below.trans B4 (b5.mono B4.size)
  repeat (first | go_skip | go_guarded | go_step | go_upon)
  refine (one_any 50 _).mono ?_
  rintro r w6 ⟨g6, rfl, i6, b6⟩
  simp only []
  have B6 : Below w.heap.size w w6 := Below.trans B5 (b6.mono B5.size)
  repeat (first | go_skip | go_guarded | go_step | go_upon)
  refine (one_any 50 _).mono ?_
  rintro r w7 ⟨g7, rfl, i7, b7⟩
  simp only []
  have B7 : Below w.heap.size w w7 := Below.trans B6 (b7.mono B6.size)
  repeat (first | go_skip | go_guarded | go_step | go_upon)
  have CA := agreeAll_any (oneF 49) (oneF 50) (oneF 50) (some ⟨g5, 0, none⟩) (some ⟨g6, 0, none⟩) (some ⟨g7, 0, none⟩) 1 1 1 w7 (HE.out.below B7) ((i5.below b6).below b7) (i6.below b7) i7
  unfold AgreeAns at CA
  rw [show all3 (oneF 49) (oneF 50) (oneF 50) = true by unfold all3; rw [tree49, tree50]; rfl, agreed_aw] at CA
  simp only [if_true] at CA
  refine (show Calls Tryz.prog 8 #[.slice (some ⟨g5, 0, none⟩) 1 1, .slice (some ⟨g6, 0, none⟩) 1 1, .slice (some ⟨g7, 0, none⟩) 1 1] w7 _ from CA).mono ?_
  rintro r w8 ⟨y, c, rfl, hz, hl, b8⟩
  simp only []
  have B8 : Below w.heap.size w w8 := Below.trans B7 (b8.mono B7.size)
  have ho8 := owns_below (owns_below (owns_below (owns_below ho b5) b6) b7) b8
  obtain ⟨ua, uc, rfl, hu⟩ := owns_view ho8
  obtain ⟨gu, rfl, _, _, hcu⟩ := hu (by simp)
  have u0 : w8.cell? ⟨gu, 0, none⟩ = some (.string ⟨#[120]⟩) := hcu 0 (by simp)
  have u1 : w8.cell? ⟨gu, 1, none⟩ = some (.int .i64 2) := hcu 1 (by simp)
  obtain ⟨gy, oy, rfl, _, hcy⟩ := hl (by simp)
  obtain ⟨-, -, y2, -⟩ := hcy 0 ⟨[120], 1, [50], 0⟩ rfl
  have y2' : w8.cell? ⟨gy, oy + 2, none⟩ = some (.string ⟨#[50]⟩) := by simpa [txt] using y2
  have HB8 := Lib.hid B8
  clear ho8 hu hcu hl hcy hz y2 CI CA ho
  repeat (first | go_skip | go_guarded | go_step | go_upon)
  go_ret
  exact ⟨rfl, HB8.out⟩
end RC
end Go.Proofs.YtmpmmebmhffaeaaGreatDoor
