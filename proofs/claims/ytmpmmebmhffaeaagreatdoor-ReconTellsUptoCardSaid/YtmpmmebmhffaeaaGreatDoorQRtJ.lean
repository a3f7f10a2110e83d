/- Layer 12: the document's Agree. -/
import Derived.Test.YtmpmmebmhffaeaaGreatDoorQRtH
set_option linter.all false
set_option maxRecDepth 100000
set_option maxHeartbeats 25600000
namespace Go.Proofs.YtmpmmebmhffaeaaGreatDoor
open Go.RowKit Go.Lib Go.Maps Go.BigFrame Go.Sort
namespace RC
open OM TP TM TR TG TW NP

section
variable {xo ta tb : List Nd} {ao aa ab : Option Addr} {co ca cb : Nat} {w : World}
set_option maxRecDepth 100000 in
set_option maxHeartbeats 3200000 in
theorem ragreeAll_any (lo : Lst w ao co xo) (la : Lst w aa ca ta) (lb : Lst w ab cb tb) :
    Calls Tryz.prog 9 #[.slice ao xo.length co, .slice aa ta.length ca, .slice ab tb.length cb] w fun r w' => ∃ u c, r = .returned (.tuple #[.slice u (agL xo ta tb).length c, .int .i64 (erL xo ta tb)]) ∧ LayN w' u (agL xo ta tb) ∧ Below w.heap.size w w' := by
  have CT := rtrees_any lo la lb
  have CL : Hid (all3 xo ta tb = true → ∀ W, Below w.heap.size w W → Calls Tryz.prog 19 #[.slice ao xo.length co, .slice aa ta.length ca, .slice ab tb.length cb, txt []] W (AtPost ((agreedL (valP xo []) (valP ta []) (valP tb [])).drop 1) W)) := Lib.hid (fun h W hW => by
    obtain ⟨h1, h2, h3⟩ := all3_iff h
    exact ragree_any h1 h2 h3 lo la lb _ [] (.inl rfl) (Nat.lt_succ_self _) W hW)
  unfold agL erL
  obtain ⟨d, hd⟩ : ∃ d, all3 xo ta tb = d := ⟨_, rfl⟩
  rw [hd] at CT CL ⊢
  obtain ⟨Q, hQ⟩ : ∃ Q, (agreedL (valP xo []) (valP ta []) (valP tb [])).drop 1 = Q := ⟨_, rfl⟩
  rw [hQ] at CL ⊢
  obtain ⟨no, hno⟩ : ∃ n, xo.length = n := ⟨_, rfl⟩
  obtain ⟨na, hna⟩ : ∃ n, ta.length = n := ⟨_, rfl⟩
  obtain ⟨nb, hnb⟩ : ∃ n, tb.length = n := ⟨_, rfl⟩
  rw [hno, hna, hnb] at CT CL ⊢
  unfold txt at CL
  have CT := Lib.hid CT
  clear lo la lb hno hna hnb hd hQ
  go_enter Tryz.func9, Tryz.ntmps9
  repeat (first | go_skip | go_guarded | go_step | go_upon)
  refine CT.out.mono ?_
  rintro r w1 ⟨rfl, hb1⟩
  simp only []
  have B1 := Lib.hid hb1
  clear hb1
  cases d with
  | false =>
    repeat (first | go_skip | go_guarded | go_step | go_upon)
    go_ret2
    exact ⟨none, 0, rfl, LayN.nil _ _, B1.out⟩
  | true =>
    have CL := Lib.hid (CL.out rfl)
    repeat (first | go_skip | go_guarded | go_step | go_upon)
    refine (CL.out _ B1.out).mono ?_
    rintro r w2 ⟨v, rfl, ho, hb2⟩
    simp only []
    obtain ⟨u, c, rfl, hl⟩ := lay_own ho
    have B2 := Lib.hid (B1.out.trans (hb2.mono B1.out.size))
    have L2 := Lib.hid hl
    clear ho hb2 hl
    repeat (first | go_skip | go_guarded | go_step | go_upon)
    go_ret2
    exact ⟨u, c, rfl, L2.out, B2.out⟩
end
end RC
end Go.Proofs.YtmpmmebmhffaeaaGreatDoor
