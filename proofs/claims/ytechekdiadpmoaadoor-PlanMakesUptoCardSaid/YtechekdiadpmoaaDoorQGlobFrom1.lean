/- Layer 2: from, where a part is one name's: its elements and what is behind. -/
import Derived.Test.YtechekdiadpmoaaDoorQGlobFrom
set_option linter.all false
set_option maxRecDepth 100000
set_option maxHeartbeats 25600000
namespace Go.Proofs.YtechekdiadpmoaaDoor
open Go.RowKit Go.Lib
namespace GH
open GP GM

set_option maxRecDepth 100000 in
set_option maxHeartbeats 3200000 in
theorem from_one (ps : List Pt) (xs : List ByteArray) (gp cp gn o cn b i j : Nat) (x : ByteArray) (pa : Option Addr) (pj pc : Nat) (D : List (Nat × Nat)) (ns : List (List UInt8)) (w : World)
    (hil : i < ps.length) (hjl : j < xs.length) (hp1 : ps.length ≤ 1000) (hx1 : xs.length ≤ 1000)
    (hgp : gp < w.heap.size) (hgn : gn < w.heap.size) (hM : MapIs w b D)
    (c1 : w.cell? ⟨gp, i * 2, none⟩ = some (.bool false)) (c2 : w.cell? ⟨gp, i * 2 + 1, none⟩ = some (.slice pa pj pc)) (c3 : w.cell? ⟨gn, o + j, none⟩ = some (.string x))
    (cF : ∀ W, Below w.heap.size w W → Calls Tryd.prog 97 #[.slice pa pj pc, .string x] W fun e w' => e = .returned (.bool true) ∧ Below W.heap.size W w')
    (cI : ∀ W, Below w.heap.size w W → Calls Tryd.prog 75 #[.agg #[.slice (some ⟨gp, 0, none⟩) ps.length cp, .slice (some ⟨gn, o, none⟩) xs.length cn, .map (some b)], .int .i64 ((i : Int) + 1), .int .i64 ((j : Int) + 1)] W (FromPost ps ns D b (i + 1) (j + 1) W)) :
    Calls Tryd.prog 75 #[.agg #[.slice (some ⟨gp, 0, none⟩) ps.length cp, .slice (some ⟨gn, o, none⟩) xs.length cn, .map (some b)], .int .i64 i, .int .i64 j] w (FromPost ps ns D b (i + 1) (j + 1) w) := by
  have HM := Lib.hid hM
  have q0 : (w.alloc (.cells #[.slice (some ⟨gp, 0, none⟩) ps.length cp, .slice (some ⟨gn, o, none⟩) xs.length cn, .map (some b)] 124)).cell? ⟨w.heap.size, 0, none⟩ = some (.slice (some ⟨gp, 0, none⟩) ps.length cp) := World.cell?_alloc_at _ _ _ _ rfl
  have q1 : (w.alloc (.cells #[.slice (some ⟨gp, 0, none⟩) ps.length cp, .slice (some ⟨gn, o, none⟩) xs.length cn, .map (some b)] 124)).cell? ⟨w.heap.size, 1, none⟩ = some (.slice (some ⟨gn, o, none⟩) xs.length cn) := World.cell?_alloc_at _ _ _ _ rfl
  have q2 : (w.alloc (.cells #[.slice (some ⟨gp, 0, none⟩) ps.length cp, .slice (some ⟨gn, o, none⟩) xs.length cn, .map (some b)] 124)).cell? ⟨w.heap.size, 2, none⟩ = some (.map (some b)) := World.cell?_alloc_at _ _ _ _ rfl
  have q3 : (w.alloc (.cells #[.slice (some ⟨gp, 0, none⟩) ps.length cp, .slice (some ⟨gn, o, none⟩) xs.length cn, .map (some b)] 124)).cell? ⟨gp, i * 2 + 1, none⟩ = some (.slice pa pj pc) := (World.cell?_alloc_past _ _ _ hgp).trans c2
  have q4 : (w.alloc (.cells #[.slice (some ⟨gp, 0, none⟩) ps.length cp, .slice (some ⟨gn, o, none⟩) xs.length cn, .map (some b)] 124)).cell? ⟨gn, o + j, none⟩ = some (.string x) := (World.cell?_alloc_past _ _ _ hgn).trans c3
  have hw1 : Below w.heap.size w (w.alloc (.cells #[.slice (some ⟨gp, 0, none⟩) ps.length cp, .slice (some ⟨gn, o, none⟩) xs.length cn, .map (some b)] 124)) := (Below.refl _ _).alloc (Nat.le_refl _) _
  have Q0 := Lib.hid q0
  have Q1 := Lib.hid q1
  have Q2 := Lib.hid q2
  have Q3 := Lib.hid q3
  have Q4 := Lib.hid q4
  have Hw1 := Lib.hid hw1
  have hiz : ¬ (i : Int) = ps.length := by omega
  have hilz : (i : Int) < ps.length := by omega
  have hjz : (j : Int) < xs.length := by omega
  clear q0 q1 q2 q3 q4 hw1 hM
  have wi : IntKind.i64.wrap ((i : Int) + 1) = (i : Int) + 1 := IntWalk.i64_in _ (by omega)
  have wj : IntKind.i64.wrap ((j : Int) + 1) = (j : Int) + 1 := IntWalk.i64_in _ (by omega)
  have cI2 : ∀ W, Below w.heap.size w W → Calls Tryd.prog 75 #[.agg #[.slice (some ⟨gp, 0, none⟩) ps.length cp, .slice (some ⟨gn, o, none⟩) xs.length cn, .map (some b)], .int .i64 (IntKind.i64.wrap ((i : Int) + 1)), .int .i64 (IntKind.i64.wrap ((j : Int) + 1))] W (FromPost ps ns D b (i + 1) (j + 1) W) := fun W hW => by rw [wi, wj]; exact cI W hW
  clear wi wj cI
  go_enter Tryd.func75, Tryd.ntmps75
  go_wp2_with fail
  generalize hW1 : w.alloc (.cells #[.slice (some ⟨gp, 0, none⟩) ps.length cp, .slice (some ⟨gn, o, none⟩) xs.length cn, .map (some b)] 124) = W1
  rw [hW1] at Q0 Q1 Q2 Q3 Q4 Hw1
  have hl0 : w.heap.size < W1.heap.size := by rw [← hW1]; simp
  clear hW1
  have s0 := Q0.out
  have s1 := Q1.out
  have s2 := Q2.out
  have s3 := Q3.out
  have s4 := Q4.out
  have hl3 : gp < W1.heap.size := by omega
  have hl4 : gn < W1.heap.size := by omega
  clear Q0 Q1 Q2 Q3 Q4 c1 c2 c3
  go_region_held3 (fun w' => w'.cell? ⟨w.heap.size, 0, none⟩ = some (.slice (some ⟨gp, 0, none⟩) ps.length cp) ∧ w'.cell? ⟨w.heap.size, 1, none⟩ = some (.slice (some ⟨gn, o, none⟩) xs.length cn) ∧ w'.cell? ⟨w.heap.size, 2, none⟩ = some (.map (some b)) ∧ w'.cell? ⟨gp, i * 2 + 1, none⟩ = some (.slice pa pj pc) ∧ w'.cell? ⟨gn, o + j, none⟩ = some (.string x)) (first | exact ⟨t0, t1, t2, t3, t4⟩ | exact ⟨r0, r1, r2, r3, r4⟩ | exact ⟨s0, s1, s2, s3, s4⟩) (first | (go_at_call 97; refine (cF _ Hw1.out.drew).mono ?_; rintro e w' ⟨rfl, hb⟩; have hb' := below_undrew hb; have r0 := (hb'.cell (p := ⟨w.heap.size, 0, none⟩) hl0).trans s0; have r1 := (hb'.cell (p := ⟨w.heap.size, 1, none⟩) hl0).trans s1; have r2 := (hb'.cell (p := ⟨w.heap.size, 2, none⟩) hl0).trans s2; have r3 := (hb'.cell (p := ⟨gp, i * 2 + 1, none⟩) hl3).trans s3; have r4 := (hb'.cell (p := ⟨gn, o + j, none⟩) hl4).trans s4; have Hb' := Lib.hid hb'; clear hb hb') | (go_at_call 75; refine (cI2 _ (Hw1.out.trans (Hb'.out.mono Hw1.out.size))).mono ?_; rintro e w2 ⟨D2, rfl, hM2, hg2, hD2⟩; have hk2 := cells_of HM.out (Hw1.out.trans (Hb'.out.mono Hw1.out.size)) hg2; have t0 := hk2.cell r0; have t1 := hk2.cell r1; have t2 := hk2.cell r2; have t3 := hk2.cell r3; have t4 := hk2.cell r4; have HM2 := Lib.hid hM2; have HG2 := Lib.hid hg2; have HD2 := Lib.hid hD2; clear hM2 hg2 hD2 hk2))
  go_wp2_with fail
  go_ret
  exact ⟨D2, rfl, HM2.out, grown_trans (grown_of (Hw1.out.trans (Hb'.out.mono Hw1.out.size)) _) HG2.out, HD2.out⟩
set_option maxRecDepth 100000 in
set_option maxHeartbeats 3200000 in
theorem from_one_no (ps : List Pt) (xs : List ByteArray) (gp cp gn o cn b i j : Nat) (x : ByteArray) (pa : Option Addr) (pj pc : Nat) (w : World)
    (hil : i < ps.length) (hjl : j < xs.length) (hp1 : ps.length ≤ 1000) (hx1 : xs.length ≤ 1000)
    (hgp : gp < w.heap.size) (hgn : gn < w.heap.size)
    (c1 : w.cell? ⟨gp, i * 2, none⟩ = some (.bool false)) (c2 : w.cell? ⟨gp, i * 2 + 1, none⟩ = some (.slice pa pj pc)) (c3 : w.cell? ⟨gn, o + j, none⟩ = some (.string x))
    (cF : ∀ W, Below w.heap.size w W → Calls Tryd.prog 97 #[.slice pa pj pc, .string x] W fun e w' => e = .returned (.bool false) ∧ Below W.heap.size W w') :
    Calls Tryd.prog 75 #[.agg #[.slice (some ⟨gp, 0, none⟩) ps.length cp, .slice (some ⟨gn, o, none⟩) xs.length cn, .map (some b)], .int .i64 i, .int .i64 j] w (fun e w' => e = .returned (.bool false) ∧ Below w.heap.size w w') := by
  have q0 : (w.alloc (.cells #[.slice (some ⟨gp, 0, none⟩) ps.length cp, .slice (some ⟨gn, o, none⟩) xs.length cn, .map (some b)] 124)).cell? ⟨w.heap.size, 0, none⟩ = some (.slice (some ⟨gp, 0, none⟩) ps.length cp) := World.cell?_alloc_at _ _ _ _ rfl
  have q1 : (w.alloc (.cells #[.slice (some ⟨gp, 0, none⟩) ps.length cp, .slice (some ⟨gn, o, none⟩) xs.length cn, .map (some b)] 124)).cell? ⟨w.heap.size, 1, none⟩ = some (.slice (some ⟨gn, o, none⟩) xs.length cn) := World.cell?_alloc_at _ _ _ _ rfl
  have q2 : (w.alloc (.cells #[.slice (some ⟨gp, 0, none⟩) ps.length cp, .slice (some ⟨gn, o, none⟩) xs.length cn, .map (some b)] 124)).cell? ⟨w.heap.size, 2, none⟩ = some (.map (some b)) := World.cell?_alloc_at _ _ _ _ rfl
  have q3 : (w.alloc (.cells #[.slice (some ⟨gp, 0, none⟩) ps.length cp, .slice (some ⟨gn, o, none⟩) xs.length cn, .map (some b)] 124)).cell? ⟨gp, i * 2 + 1, none⟩ = some (.slice pa pj pc) := (World.cell?_alloc_past _ _ _ hgp).trans c2
  have q4 : (w.alloc (.cells #[.slice (some ⟨gp, 0, none⟩) ps.length cp, .slice (some ⟨gn, o, none⟩) xs.length cn, .map (some b)] 124)).cell? ⟨gn, o + j, none⟩ = some (.string x) := (World.cell?_alloc_past _ _ _ hgn).trans c3
  have hw1 : Below w.heap.size w (w.alloc (.cells #[.slice (some ⟨gp, 0, none⟩) ps.length cp, .slice (some ⟨gn, o, none⟩) xs.length cn, .map (some b)] 124)) := (Below.refl _ _).alloc (Nat.le_refl _) _
  have Q0 := Lib.hid q0
  have Q1 := Lib.hid q1
  have Q2 := Lib.hid q2
  have Q3 := Lib.hid q3
  have Q4 := Lib.hid q4
  have Hw1 := Lib.hid hw1
  have hiz : ¬ (i : Int) = ps.length := by omega
  have hilz : (i : Int) < ps.length := by omega
  have hjz : (j : Int) < xs.length := by omega
  clear q0 q1 q2 q3 q4 hw1
  go_enter Tryd.func75, Tryd.ntmps75
  go_wp2_with fail
  generalize hW1 : w.alloc (.cells #[.slice (some ⟨gp, 0, none⟩) ps.length cp, .slice (some ⟨gn, o, none⟩) xs.length cn, .map (some b)] 124) = W1
  rw [hW1] at Q0 Q1 Q2 Q3 Q4 Hw1
  have hl0 : w.heap.size < W1.heap.size := by rw [← hW1]; simp
  clear hW1
  have s0 := Q0.out
  have s1 := Q1.out
  have s2 := Q2.out
  have s3 := Q3.out
  have s4 := Q4.out
  have hl3 : gp < W1.heap.size := by omega
  have hl4 : gn < W1.heap.size := by omega
  clear Q0 Q1 Q2 Q3 Q4 c1 c2 c3
  have k0 := cell_regrown s0
  have k1 := cell_regrown s1
  have k2 := cell_regrown s2
  have k3 := cell_regrown s3
  have k4 := cell_regrown s4
  have cX : ∀ d os, Calls Tryd.prog 97 #[.slice pa pj pc, .string x] (Go.Sort.grow (redrawn W1 d) os) fun e w'' => e = .returned (.bool false) ∧ ∃ p : Regrown, w'' = Go.Sort.grow (redrawn W1 p.d) p.os := fun d os => Calls.regrown_of (cF _ (Hw1.out.trans ((below_regrown W1 d os).mono Hw1.out.size)))
  with_reducible refine wp_region_quiet_below (by kernel_rfl) (by kernel_rfl) ?_
  repeat (go_big_quiet_step (first | (go_at_call_of 97 (Value.string x); exact cX _ _)))
  refine wpQuiet_nil ?_
  intro _ hw'
  obtain ⟨⟨dq, osq⟩, hw''⟩ := hw'
  subst hw''
  go_wp2_with fail
  go_ret
  exact ⟨rfl, Hw1.out.trans ((below_regrown W1 dq osq).mono Hw1.out.size)⟩
end GH
end Go.Proofs.YtechekdiadpmoaaDoor
