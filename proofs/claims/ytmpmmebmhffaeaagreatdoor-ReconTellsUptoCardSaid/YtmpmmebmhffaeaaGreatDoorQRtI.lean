/- Layer 12: the document's trees and Items. -/
import Derived.Test.YtmpmmebmhffaeaaGreatDoorQRtK
set_option linter.all false
set_option maxRecDepth 100000
set_option maxHeartbeats 25600000
namespace Go.Proofs.YtmpmmebmhffaeaaGreatDoor
open Go.RowKit Go.Lib Go.Maps Go.BigFrame Go.Sort
namespace RC
open OM TP TM TR TG TW NP

section
variable {xo ta tb : List Nd} {ao aa ab : Option Addr} {co ca cb : Nat} {w : World}
theorem check_z (t : List Nd) : (((checkE t : Nat) : Int) == 0) = treeB t := by
  unfold checkE
  cases treeB t <;> rfl
set_option maxRecDepth 100000 in
set_option maxHeartbeats 3200000 in
theorem rtrees_any (lo : Lst w ao co xo) (la : Lst w aa ca ta) (lb : Lst w ab cb tb) :
    Calls Tryz.prog 16 #[.slice ao xo.length co, .slice aa ta.length ca, .slice ab tb.length cb] w fun r w' => r = .returned (.bool (all3 xo ta tb)) ∧ Below w.heap.size w w' := by
  have C1 := rcheck_any ao co xo w lo.lay lo.small lo.max
  have C2 : Hid (∀ W, Below w.heap.size w W → Calls Tryz.prog 28 #[.slice aa ta.length ca] W fun r w' => r = .returned (.int .i64 (checkE ta : Nat)) ∧ Below W.heap.size W w') := Lib.hid (fun W hW => rcheck_any aa ca ta W (la.lay.below hW) la.small la.max)
  have C3 : Hid (∀ W, Below w.heap.size w W → Calls Tryz.prog 28 #[.slice ab tb.length cb] W fun r w' => r = .returned (.int .i64 (checkE tb : Nat)) ∧ Below W.heap.size W w') := Lib.hid (fun W hW => rcheck_any ab cb tb W (lb.lay.below hW) lb.small lb.max)
  have z1 := check_z xo
  have z2 := check_z ta
  have z3 := check_z tb
  unfold all3
  obtain ⟨no, hno⟩ : ∃ n, xo.length = n := ⟨_, rfl⟩
  obtain ⟨na, hna⟩ : ∃ n, ta.length = n := ⟨_, rfl⟩
  obtain ⟨nb, hnb⟩ : ∃ n, tb.length = n := ⟨_, rfl⟩
  rw [hno] at C1 ⊢
  rw [hna] at C2 ⊢
  rw [hnb] at C3 ⊢
  generalize checkE xo = e1 at C1 z1
  generalize checkE ta = e2 at C2 z2
  generalize checkE tb = e3 at C3 z3
  generalize treeB xo = b1 at z1 ⊢
  generalize treeB ta = b2 at z2 ⊢
  generalize treeB tb = b3 at z3 ⊢
  have C1 := Lib.hid C1
  clear lo la lb hno hna hnb
  go_enter Tryz.func16, Tryz.ntmps16
  repeat (first | go_skip | go_guarded | go_step | go_upon)
  refine C1.out.mono ?_
  rintro r w1 ⟨rfl, hb1⟩
  simp only []
  have B1 := Lib.hid hb1
  clear hb1
  cases b1 with
  | false =>
    repeat (first | go_skip | go_guarded | go_step | go_upon)
    go_ret
    exact ⟨rfl, B1.out⟩
  | true =>
    repeat (first | go_skip | go_guarded | go_step | go_upon)
    refine (C2.out _ B1.out).mono ?_
    rintro r w2 ⟨rfl, hb2⟩
    simp only []
    have B2 := Lib.hid (B1.out.trans (hb2.mono B1.out.size))
    clear hb2
    cases b2 with
    | false =>
      repeat (first | go_skip | go_guarded | go_step | go_upon)
      go_ret
      exact ⟨rfl, B2.out⟩
    | true =>
      repeat (first | go_skip | go_guarded | go_step | go_upon)
      refine (C3.out _ B2.out).mono ?_
      rintro r w3 ⟨rfl, hb3⟩
      simp only []
      have B3 := Lib.hid (B2.out.trans (hb3.mono B2.out.size))
      clear hb3
      repeat (first | go_skip | go_guarded | go_step | go_upon)
      go_ret
      exact ⟨rfl, B3.out⟩
set_option maxRecDepth 100000 in
set_option maxHeartbeats 3200000 in
theorem ritems_any (lo : Lst w ao co xo) (la : Lst w aa ca ta) (lb : Lst w ab cb tb) :
    Calls Tryz.prog 7 #[.slice ao xo.length co, .slice aa ta.length ca, .slice ab tb.length cb] w fun r w' => ∃ u c, r = .returned (.tuple #[.slice u (itL xo ta tb).length c, .int .i64 (erL xo ta tb)]) ∧ LayI w' u (itL xo ta tb) ∧ Below w.heap.size w w' := by
  have CT := rtrees_any lo la lb
  have CL : Hid (all3 xo ta tb = true → ∀ W, Below w.heap.size w W → Calls Tryz.prog 17 #[.slice ao xo.length co, .slice aa ta.length ca, .slice ab tb.length cb, txt [], .slice none 0 0] W (LookPost w.heap.size w W ([] ++ itemsL [] (valP xo []) (valP ta []) (valP tb [])))) := Lib.hid (fun h W hW => by
    obtain ⟨h1, h2, h3⟩ := all3_iff h
    refine look_any h1 h2 h3 lo la lb w.heap.size (Nat.le_refl _) _ [] (.inl rfl) (Nat.lt_succ_self _) W (.slice none 0 0) [] hW (World.ownsRow_nil _ _ _ _) hW.size ?_
    rw [List.nil_append]
    have := itL_len xo ta tb
    unfold itL at this
    rw [if_pos h] at this
    exact this)
  unfold itL erL
  obtain ⟨d, hd⟩ : ∃ d, all3 xo ta tb = d := ⟨_, rfl⟩
  rw [hd] at CT CL ⊢
  rw [List.nil_append] at CL
  obtain ⟨Q, hQ⟩ : ∃ Q, itemsL [] (valP xo []) (valP ta []) (valP tb []) = Q := ⟨_, rfl⟩
  rw [hQ] at CL ⊢
  obtain ⟨no, hno⟩ : ∃ n, xo.length = n := ⟨_, rfl⟩
  obtain ⟨na, hna⟩ : ∃ n, ta.length = n := ⟨_, rfl⟩
  obtain ⟨nb, hnb⟩ : ∃ n, tb.length = n := ⟨_, rfl⟩
  rw [hno, hna, hnb] at CT CL ⊢
  unfold txt at CL
  have CT := Lib.hid CT
  clear lo la lb hno hna hnb hd hQ
  go_enter Tryz.func7, Tryz.ntmps7
  repeat (first | go_skip | go_guarded | go_step | go_upon)
  refine CT.out.mono ?_
  rintro r w1 ⟨rfl, hb1⟩
  simp only []
  have B1 := Lib.hid hb1
  clear hb1
  cases d with
  | false =>
    repeat (first | go_skip | go_guarded | go_step | go_upon)
    go_ret2
    exact ⟨none, 0, rfl, LayI.nil _ _, B1.out⟩
  | true =>
    have CL := Lib.hid (CL.out rfl)
    repeat (first | go_skip | go_guarded | go_step | go_upon)
    refine (CL.out _ B1.out).mono ?_
    rintro r w2 ⟨v, rfl, ho, hb2, -, -⟩
    simp only []
    obtain ⟨u, c, rfl, hl⟩ := lay_items ho
    have B2 := Lib.hid hb2
    have L2 := Lib.hid hl
    clear ho hb2 hl
    repeat (first | go_skip | go_guarded | go_step | go_upon)
    go_ret2
    exact ⟨u, c, rfl, L2.out, B2.out⟩
end
end RC
end Go.Proofs.YtmpmmebmhffaeaaGreatDoor
