/- Layer 13: the five rules. -/
import Derived.Test.YtechekdiadpmoaaDoorQPlRead
import Derived.Test.YtechekdiadpmoaaDoorQPlProg
set_option linter.all false
set_option maxRecDepth 100000
set_option maxHeartbeats 25600000
namespace Go.Proofs.YtechekdiadpmoaaDoor
open Go.RowKit Go.Lib Go.Maps Go.BigFrame
namespace PR
open OM TM PL PM PB

/-- A settler: a profile's seven cells and the map of what is chosen. -/
def setV (v0 v1 : Value) (mo : Option Addr) (n mc : Nat) (pr fo : Int) (ba fa : Bool) (b : Nat) : Value := .agg #[v0, v1, .slice mo n mc, .int .i64 pr, .int .i64 fo, .bool ba, .bool fa, .map (some b)]
def itV (i : Pi) : Value := .agg #[.string ⟨i.1.toArray⟩, .int .i64 i.2]
/-- What is right of a profile and of the choices, in a world. -/
structure SetAt (W : World) (mo : Option Addr) (mc : Nat) (M : List Pm) (b : Nat) (cs : List Pi) : Prop where
  env : NF.Env W
  prog : ArgM W mo mc M
  map : ∃ n D, MapP W b n D cs
theorem SetAt.below {W W' : World} {mo : Option Addr} {mc : Nat} {M : List Pm} {b : Nat} {cs : List Pi} (h : SetAt W mo mc M b cs) (hb : Below W.heap.size W W') : SetAt W' mo mc M b cs :=
  ⟨h.env.below hb, h.prog.below hb, by obtain ⟨n, D, hm⟩ := h.map; exact ⟨n, D, hm.below hb⟩⟩
def side (f : Int) : Int × Bool := if f = 1 then (1, true) else if f = 2 then (2, true) else (0, false)
theorem direction_any (k : Int) (w : World) : Calls Tryd.prog 51 #[.int .i64 k] w fun r w' => r = .returned (.int .i64 (dirI k)) ∧ Below w.heap.size w w' := by
  unfold dirI
  by_cases h : k = 3
  · subst h
    go_enter Tryd.func51, Tryd.ntmps51
    repeat (first | go_skip | go_guarded | go_step | go_upon)
    go_ret
    exact ⟨rfl, Below.refl _ _⟩
  · rw [if_neg h]
    have z : (k == 3) = false := by simpa using h
    clear h
    go_enter Tryd.func51, Tryd.ntmps51
    repeat (first | go_skip | go_guarded | go_step | go_upon)
    go_ret
    exact ⟨rfl, Below.refl _ _⟩
theorem fromSide_any (k : Int) (w : World) : Calls Tryd.prog 71 #[.int .i64 k] w fun r w' => r = .returned (.tuple #[.int .i64 (side k).1, .bool (side k).2]) ∧ Below w.heap.size w w' := by
  unfold side
  by_cases h : k = 1
  · subst h
    go_enter Tryd.func71, Tryd.ntmps71
    repeat (first | go_skip | go_guarded | go_step | go_upon)
    go_ret2
    exact ⟨rfl, Below.refl _ _⟩
  · rw [if_neg h]
    have z : (k == 1) = false := by simpa using h
    clear h
    by_cases h : k = 2
    · subst h
      go_enter Tryd.func71, Tryd.ntmps71
      repeat (first | go_skip | go_guarded | go_step | go_upon)
      go_ret2
      exact ⟨rfl, Below.refl _ _⟩
    · rw [if_neg h]
      have z2 : (k == 2) = false := by simpa using h
      clear h
      go_enter Tryd.func71, Tryd.ntmps71
      repeat (first | go_skip | go_guarded | go_step | go_upon)
      go_ret2
      exact ⟨rfl, Below.refl _ _⟩
section
variable (v0 v1 : Value) (mo : Option Addr) (mc : Nat) (M : List Pm) (pr fo : Int) (ba fa : Bool) (b : Nat) (cs : List Pi) (i : Pi) (w : World)
/-- What the rules answer. -/
def rule0 (cs : List Pi) (i : Pi) : Int × Bool := ((findP cs i.1).getD 0, (findP cs i.1).isSome)
def rule2 (M : List Pm) (i : Pi) : Int × Bool := (3, decide (i.2 = 4) && decide (progL M i.1 ≠ []))
def rule3 (pr : Int) (i : Pi) : Int × Bool := ((side pr).1, (side pr).2 && decide (i.2 = 4))
def rule4 (ba : Bool) (i : Pi) : Int × Bool := (4, !decide (i.2 = 4) && ba)
def Says (x : Int × Bool) (w : World) (r : Ending) (w' : World) : Prop := r = .returned (.tuple #[.int .i64 x.1, .bool x.2]) ∧ Below w.heap.size w w'
set_option maxRecDepth 100000 in
set_option maxHeartbeats 1600000 in
theorem choice_any (h : SetAt w mo mc M b cs) (hp : i.1.length ≤ 1048576) : Calls Tryd.prog 46 #[setV v0 v1 mo M.length mc pr fo ba fa b, itV i] w (Says (rule0 cs i) w) := by
  obtain ⟨n, D, hm⟩ := h.map
  obtain ⟨p, k⟩ := i
  unfold setV itV rule0
  simp only at hp ⊢
  have hps : p.length ≤ maxLen := by unfold maxLen; omega
  have MA := Lib.hid (hm.below (((Below.refl w.heap.size w).alloc (Nat.le_refl _) (.cells #[v0, v1, .slice mo M.length mc, .int .i64 pr, .int .i64 fo, .bool ba, .bool fa, .map (some b)] 71)).alloc (by simp) (.cells #[.string ⟨p.toArray⟩, .int .i64 k] 34)))
  have HB : Hid (Below w.heap.size w ((w.alloc (.cells #[v0, v1, .slice mo M.length mc, .int .i64 pr, .int .i64 fo, .bool ba, .bool fa, .map (some b)] 71)).alloc (.cells #[.string ⟨p.toArray⟩, .int .i64 k] 34))) := Lib.hid (((Below.refl _ _).alloc (Nat.le_refl _) _).alloc (by simp) _)
  obtain ⟨f, hf⟩ : ∃ f, findP cs p = f := ⟨_, rfl⟩
  have HF := Lib.hid hf
  have HPs := Lib.hid hps
  rw [hf]
  obtain ⟨f1, hf1⟩ : ∃ f1, f.getD 0 = f1 := ⟨_, rfl⟩
  obtain ⟨f2, hf2⟩ : ∃ f2, f.isSome = f2 := ⟨_, rfl⟩
  have HF1 := Lib.hid hf1
  have HF2 := Lib.hid hf2
  rw [hf1, hf2]
  clear h hm hp hps hf hf1 hf2
  go_enter Tryd.func46, Tryd.ntmps46
  repeat (first | (at_lookup; refine look_ok rfl _ _ _ rfl Tryd.underlying66 rfl MA.out p HPs.out rfl ?_; rw [HF.out, HF1.out, HF2.out]) | go_skip | go_guarded | go_step | go_upon)
  go_ret2
  exact ⟨rfl, HB.out⟩
set_option maxRecDepth 100000 in
set_option maxHeartbeats 1600000 in
theorem force_any : Calls Tryd.prog 47 #[setV v0 v1 mo M.length mc pr fo ba fa b, itV i] w (Says (side fo) w) := by
  obtain ⟨p, k⟩ := i
  unfold setV itV
  simp only
  have HB : Hid (Below w.heap.size w ((w.alloc (.cells #[v0, v1, .slice mo M.length mc, .int .i64 pr, .int .i64 fo, .bool ba, .bool fa, .map (some b)] 71)).alloc (.cells #[.string ⟨p.toArray⟩, .int .i64 k] 34))) := Lib.hid (((Below.refl _ _).alloc (Nat.le_refl _) _).alloc (by simp) _)
  go_enter Tryd.func47, Tryd.ntmps47
  repeat (first | go_skip | go_guarded | go_step | go_upon)
  refine (fromSide_any fo _).mono ?_
  rintro r w2 ⟨rfl, hb⟩
  simp only []
  have HB2 : Hid (Below w.heap.size w w2) := Lib.hid (HB.out.trans (hb.mono HB.out.size))
  clear hb
  repeat (first | go_skip | go_guarded | go_step | go_upon)
  go_ret2
  exact ⟨rfl, HB2.out⟩
set_option maxRecDepth 100000 in
set_option maxHeartbeats 3200000 in
theorem program_rule (h : SetAt w mo mc M b cs) (hp : i.1.length ≤ 1048576) : Calls Tryd.prog 48 #[setV v0 v1 mo M.length mc pr fo ba fa b, itV i] w (Says (rule2 M i) w) := by
  obtain ⟨p, k⟩ := i
  simp only at hp
  have HB : Hid (Below w.heap.size w ((w.alloc (.cells #[v0, v1, .slice mo M.length mc, .int .i64 pr, .int .i64 fo, .bool ba, .bool fa, .map (some b)] 71)).alloc (.cells #[.string ⟨p.toArray⟩, .int .i64 k] 34))) := Lib.hid (((Below.refl _ _).alloc (Nat.le_refl _) _).alloc (by simp) _)
  have CP := fun W (hW : Below w.heap.size w W) => program_any v0 v1 mo mc M pr fo ba fa p W (h.env.below hW) (h.prog.below hW) hp
  unfold profV txt at CP
  unfold setV itV rule2
  simp only
  obtain ⟨nm, hnm⟩ : ∃ nm, M.length = nm := ⟨_, rfl⟩
  rw [hnm] at CP HB ⊢
  obtain ⟨G, hG⟩ : ∃ G, progL M p = G := ⟨_, rfl⟩
  rw [hG] at CP ⊢
  have HCP := Lib.hid CP
  by_cases h4 : k = 4
  · subst h4
    have he2 : decide (G ≠ []) = !G.isEmpty := by rw [Bool.eq_iff_iff]; simp
    rw [he2]
    clear h hp CP hnm hG he2
    go_enter Tryd.func48, Tryd.ntmps48
    repeat (first | go_skip | go_guarded | go_step | go_upon)
    refine (HCP.out _ HB.out).mono ?_
    rintro r w2 ⟨rfl, hb⟩
    simp only []
    have HB2 : Hid (Below w.heap.size w w2) := Lib.hid (HB.out.trans (hb.mono HB.out.size))
    clear hb
    repeat (first | go_skip | go_guarded | go_step | go_upon)
    go_ret2
    exact ⟨rfl, HB2.out⟩
  · have z : (k == 4) = false := by simpa using h4
    rw [decide_eq_false h4]
    clear h hp CP hnm hG h4 HCP
    go_enter Tryd.func48, Tryd.ntmps48
    repeat (first | go_skip | go_guarded | go_step | go_upon)
    go_ret2
    exact ⟨rfl, HB.out⟩
set_option maxRecDepth 100000 in
set_option maxHeartbeats 3200000 in
theorem prefer_any : Calls Tryd.prog 49 #[setV v0 v1 mo M.length mc pr fo ba fa b, itV i] w (Says (rule3 pr i) w) := by
  obtain ⟨p, k⟩ := i
  unfold setV itV rule3
  simp only
  obtain ⟨nm, hnm⟩ : ∃ nm, M.length = nm := ⟨_, rfl⟩
  rw [hnm]
  have HB : Hid (Below w.heap.size w ((w.alloc (.cells #[v0, v1, .slice mo nm mc, .int .i64 pr, .int .i64 fo, .bool ba, .bool fa, .map (some b)] 71)).alloc (.cells #[.string ⟨p.toArray⟩, .int .i64 k] 34))) := Lib.hid (((Below.refl _ _).alloc (Nat.le_refl _) _).alloc (by simp) _)
  obtain ⟨z4, hz4⟩ : ∃ z4, decide (k = 4) = z4 := ⟨_, rfl⟩
  have hk4 : (k == 4) = z4 := by rw [← hz4, Bool.eq_iff_iff]; simp
  rw [hz4]
  obtain ⟨⟨s1, s2⟩, hs⟩ : ∃ s, side pr = s := ⟨_, rfl⟩
  rw [hs]
  have HSd := Lib.hid hs
  clear hnm hz4 hs
  simp only
  have hc : ((w.alloc (.cells #[v0, v1, .slice mo nm mc, .int .i64 pr, .int .i64 fo, .bool ba, .bool fa, .map (some b)] 71)).alloc (.cells #[.string ⟨p.toArray⟩, .int .i64 k] 34)).heap[w.heap.size + 1]? = some (.cells #[.string ⟨p.toArray⟩, .int .i64 k] 34 (0, 0)) := by
    have := heap_alloc_new (w.alloc (.cells #[v0, v1, .slice mo nm mc, .int .i64 pr, .int .i64 fo, .bool ba, .bool fa, .map (some b)] 71)) (.cells #[.string ⟨p.toArray⟩, .int .i64 k] 34)
    simpa using this
  have hsz : ((w.alloc (.cells #[v0, v1, .slice mo nm mc, .int .i64 pr, .int .i64 fo, .bool ba, .bool fa, .map (some b)] 71)).alloc (.cells #[.string ⟨p.toArray⟩, .int .i64 k] 34)).heap.size = w.heap.size + 2 := by simp
  have HC := Lib.hid (cells2 hc).2
  have HS := Lib.hid hsz
  clear hc hsz
  go_enter Tryd.func49, Tryd.ntmps49
  repeat (first | go_skip | go_guarded | go_step | go_upon)
  refine (fromSide_any pr _).mono ?_
  rintro r w2 ⟨rfl, hb⟩
  simp only []
  have HB2 : Hid (Below w.heap.size w w2) := Lib.hid (HB.out.trans (hb.mono HB.out.size))
  have c1 : w2.cell? ⟨w.heap.size + 1, 1, none⟩ = some (.int .i64 k) := (hb.cell (p := ⟨w.heap.size + 1, 1, none⟩) (by show w.heap.size + 1 < _; rw [HS.out]; omega)).trans HC.out
  have hsz2 : w.heap.size + 1 < w2.heap.size := by have := hb.size; rw [HS.out] at this; omega
  clear hb
  rw [HSd.out]
  simp only
  cases s2 with
  | true =>
    repeat (first | go_skip | go_guarded | go_step | go_upon)
    go_quiet (fail)
    rename_i nq
    have HB3 : Hid (Below w.heap.size w (w2.drewN nq)) := Lib.hid ⟨HB2.out.os, HB2.out.tape, HB2.out.output, HB2.out.size, HB2.out.block⟩
    repeat (first | go_skip | go_guarded | go_step | go_upon)
    go_ret2
    exact ⟨by simp, HB3.out⟩
  | false =>
    repeat (first | go_skip | go_guarded | go_step | go_upon)
    go_quiet (fail)
    rename_i nq
    have HB3 : Hid (Below w.heap.size w (w2.drewN nq)) := Lib.hid ⟨HB2.out.os, HB2.out.tape, HB2.out.output, HB2.out.size, HB2.out.block⟩
    repeat (first | go_skip | go_guarded | go_step | go_upon)
    go_ret2
    exact ⟨by simp, HB3.out⟩
set_option maxRecDepth 100000 in
set_option maxHeartbeats 3200000 in
theorem batch_any : Calls Tryd.prog 50 #[setV v0 v1 mo M.length mc pr fo ba fa b, itV i] w (Says (rule4 ba i) w) := by
  obtain ⟨p, k⟩ := i
  unfold setV itV rule4
  simp only
  obtain ⟨nm, hnm⟩ : ∃ nm, M.length = nm := ⟨_, rfl⟩
  rw [hnm]
  have HB : Hid (Below w.heap.size w ((w.alloc (.cells #[v0, v1, .slice mo nm mc, .int .i64 pr, .int .i64 fo, .bool ba, .bool fa, .map (some b)] 71)).alloc (.cells #[.string ⟨p.toArray⟩, .int .i64 k] 34))) := Lib.hid (((Below.refl _ _).alloc (Nat.le_refl _) _).alloc (by simp) _)
  obtain ⟨z4, hz4⟩ : ∃ z4, decide (k = 4) = z4 := ⟨_, rfl⟩
  have hk4 : (k != 4) = !z4 := by rw [← hz4, Bool.eq_iff_iff]; simp
  rw [hz4]
  clear hnm hz4
  cases z4 with
  | true =>
    simp only [Bool.not_true] at hk4
    go_enter Tryd.func50, Tryd.ntmps50
    repeat (first | go_skip | go_guarded | go_step | go_upon)
    go_quiet (fail)
    rename_i nq
    have HB3 : Hid (Below w.heap.size w (((w.alloc (.cells #[v0, v1, .slice mo nm mc, .int .i64 pr, .int .i64 fo, .bool ba, .bool fa, .map (some b)] 71)).alloc (.cells #[.string ⟨p.toArray⟩, .int .i64 k] 34)).drewN nq)) := Lib.hid ⟨HB.out.os, HB.out.tape, HB.out.output, HB.out.size, HB.out.block⟩
    repeat (first | go_skip | go_guarded | go_step | go_upon)
    go_ret2
    exact ⟨by simp, HB3.out⟩
  | false =>
    simp only [Bool.not_false] at hk4
    go_enter Tryd.func50, Tryd.ntmps50
    repeat (first | go_skip | go_guarded | go_step | go_upon)
    go_quiet (fail)
    rename_i nq
    have HB3 : Hid (Below w.heap.size w (((w.alloc (.cells #[v0, v1, .slice mo nm mc, .int .i64 pr, .int .i64 fo, .bool ba, .bool fa, .map (some b)] 71)).alloc (.cells #[.string ⟨p.toArray⟩, .int .i64 k] 34)).drewN nq)) := Lib.hid ⟨HB.out.os, HB.out.tape, HB.out.output, HB.out.size, HB.out.block⟩
    repeat (first | go_skip | go_guarded | go_step | go_upon)
    go_ret2
    exact ⟨by simp, HB3.out⟩
end
end PR
end Go.Proofs.YtechekdiadpmoaaDoor
