/- Layer 2: from, where a part is any number of names. -/
import Derived.Test.YtechekdiadpmoaaDoorQGlobFrom1
import Derived.BigRegion
set_option linter.all false
set_option maxRecDepth 100000
set_option maxHeartbeats 25600000
namespace Go.Proofs.YtechekdiadpmoaaDoor
open Go.RowKit Go.Lib
namespace GH
open GP GM
open Go.ChangeMaps (setBlock)

theorem heap_setBlock_same {w : World} {b : Nat} {o : Obj} (hb : b < w.heap.size) : (setBlock w b o).heap[b]? = some o := by
  simp [setBlock, hb]
theorem heap_setBlock_other {w : World} {b k : Nat} {o : Obj} (h : k ≠ b) : (setBlock w b o).heap[k]? = w.heap[k]? := by
  simp [setBlock, Ne.symm h]
theorem size_setBlock {w : World} {b : Nat} {o : Obj} : (setBlock w b o).heap.size = w.heap.size := by simp [setBlock]
theorem grown_setBlock {w : World} {b : Nat} {o : Obj} : w.grownBy (setBlock w b o) (some b) :=
  ⟨rfl, rfl, rfl, by rw [size_setBlock]; exact Nat.le_refl _, fun k _ hne => heap_setBlock_other (fun e => hne (by rw [e]))⟩
/-- A store of 1 at a pair that isn't there: the entry, and the store into it. -/
theorem put_one {W : World} {b : Nat} {D : List (Nat × Nat)} (hM : MapIs W b D) (i j : Nat) (hi : i ≤ 4096) (hj : j ≤ 4096) (hn : (i, j) ∉ D) :
    ∃ (c : Nat) (W3 W4 : World), (Instr.mapEntry 122 (.map (some b)) (.agg #[.int .i64 i, .int .i64 j])).run Tryd.prog W = .ok (.tuple #[.int .i64 0, .int .i64 c]) W3 ∧
      (Instr.entryStore 122 (.map (some b)) (.int .i64 c) (.int .i64 1)).run Tryd.prog W3 = .ok () W4 ∧ W.grownBy W3 (some b) ∧ W.grownBy W4 (some b) ∧ MapIs W4 b (D ++ [(i, j)]) ∧
      (Instr.lookup 122 (.map (some b)) (.agg #[.int .i64 i, .int .i64 j]) false).run Tryd.prog W3 = .ok (.int .i64 0) W3 := by
  have hlt := hM.lt
  obtain ⟨es, c, hb, hm⟩ := hM
  have h3 := heap_setBlock_same (w := W) (o := .map (es.push ⟨keyV (i, j), .int .i64 0, c⟩) (c + 1)) hlt
  refine ⟨c, _, _, entry_run hb hm i j hi hj hn, store_run hm.stamped _ _ h3, grown_setBlock, grown_trans grown_setBlock grown_setBlock, ?_⟩
  refine ⟨⟨_, _, heap_setBlock_same (by rw [size_setBlock]; exact hlt), hm.push i j hi hj hn⟩, ?_⟩
  obtain ⟨l, hl⟩ := key_ok (i, j) hi hj
  have hk : keyV (i, j) = .agg #[.int .i64 i, .int .i64 j] := rfl
  have hreads : ∀ e ∈ (es.push ⟨keyV (i, j), .int .i64 0, c⟩).toList, ∃ l, keyOf Tryd.prog 145 e.key = some l := by
    intro e he
    simp only [Array.toList_push, List.mem_append, List.mem_singleton] at he
    rcases he with he | rfl
    · exact hm.reads e he
    · exact ⟨l, hl⟩
  rw [hk] at hl
  have key : ∀ (es3 : Array MapEntry) (W3 : World), W3.heap[b]? = some (.map es3 (c + 1)) → (∀ e ∈ es3.toList, ∃ l, keyOf Tryd.prog 145 e.key = some l) → (∀ e ∈ es3.toList, e.key = .agg #[.int .i64 i, .int .i64 j] → e.val = .int .i64 0) → (∃ e ∈ es3.toList, e.key = .agg #[.int .i64 i, .int .i64 j]) →
      (Instr.lookup 122 (.map (some b)) (.agg #[.int .i64 i, .int .i64 j]) false).run Tryd.prog W3 = .ok (.int .i64 0) W3 := by
    intro es3 W3 hb3 hr3 hv3 ⟨e0, he0, he1⟩
    rcases law.find W3 hl es3.toList hr3 with ⟨h1, h2⟩ | ⟨n, e, h1, h2, h4⟩
    · exact absurd he1 (h2 e0 he0)
    · have hv := hv3 e (List.mem_of_getElem? h2) h4
      simp [Instr.lookup, run_underlying Tryd.underlying122, MapKept.run_getObj_map hb3, law.check W3 es3.isEmpty hl, h1, hv, Result.andThen]
  refine key _ _ h3 hreads (fun e he h4 => ?_) ⟨⟨keyV (i, j), .int .i64 0, c⟩, by simp, hk⟩
  simp only [Array.toList_push, List.mem_append, List.mem_singleton] at he
  rcases he with he | rfl
  · exfalso
    obtain ⟨p, hp, e1⟩ := hm.entry e he
    rw [h4] at e1
    apply hn
    rw [keyV_inj (p := (i, j)) e1]
    exact hp
  · rfl
set_option maxRecDepth 100000 in
set_option maxHeartbeats 3200000 in
theorem from_hit (ps : List Pt) (xs : List ByteArray) (gp cp gn o cn b i j : Nat) (pa : Option Addr) (pj pc : Nat) (D : List (Nat × Nat)) (w : World)
    (hil : i < ps.length) (hjl : j ≤ xs.length) (hp1 : ps.length ≤ 1000) (hx1 : xs.length ≤ 1000)
    (hgp : gp < w.heap.size) (hM : MapIs w b D) (hD : (i, j) ∈ D)
    (c1 : w.cell? ⟨gp, i * 2, none⟩ = some (.bool true)) (c2 : w.cell? ⟨gp, i * 2 + 1, none⟩ = some (.slice pa pj pc)) :
    Calls Tryd.prog 75 #[.agg #[.slice (some ⟨gp, 0, none⟩) ps.length cp, .slice (some ⟨gn, o, none⟩) xs.length cn, .map (some b)], .int .i64 i, .int .i64 j] w (fun e w' => e = .returned (.bool false) ∧ Below w.heap.size w w') := by
  have hw2 : Below w.heap.size w ((w.alloc (.cells #[.slice (some ⟨gp, 0, none⟩) ps.length cp, .slice (some ⟨gn, o, none⟩) xs.length cn, .map (some b)] 124)).alloc (.cells #[.int .i64 i, .int .i64 j] 145)) := ((Below.refl _ _).alloc (Nat.le_refl _) _).alloc (by simp) _
  have hl := look_run (hM.same (hw2.block b hM.lt)) i j (by omega) (by omega)
  rw [if_pos hD] at hl
  have Hw2 := Lib.hid hw2
  have hiz : ¬ (i : Int) = ps.length := by omega
  have hilz : (i : Int) < ps.length := by omega
  clear hM hD hw2
  go_enter Tryd.func75, Tryd.ntmps75
  go_wp2_with fail
  go_ret
  exact ⟨rfl, Hw2.out⟩
set_option maxRecDepth 100000 in
set_option maxHeartbeats 3200000 in
theorem from_miss (ps : List Pt) (xs : List ByteArray) (gp cp gn o cn b i j : Nat) (pa : Option Addr) (pj pc : Nat) (D : List (Nat × Nat)) (ns : List (List UInt8)) (w : World)
    (hil : i < ps.length) (hjl : j ≤ xs.length) (hp1 : ps.length ≤ 1000) (hx1 : xs.length ≤ 1000)
    (hgp : gp < w.heap.size) (hM : MapIs w b D) (hD : (i, j) ∉ D) (hDs : ∀ p ∈ D, i ≤ p.1 → j ≤ p.2 → sf ps ns p)
    (hend : j = xs.length → mat (ps.drop i) (ns.drop j) = mat (ps.drop (i + 1)) (ns.drop j)) (hstep : j < xs.length → mat (ps.drop i) (ns.drop j) = (mat (ps.drop (i + 1)) (ns.drop j) || mat (ps.drop i) (ns.drop (j + 1))))
    (cA : ∀ W D', CellsKept w W → w.heap.size ≤ W.heap.size → MapIs W b D' → (∀ p ∈ D', i + 1 ≤ p.1 → j ≤ p.2 → sf ps ns p) →
      Calls Tryd.prog 75 #[.agg #[.slice (some ⟨gp, 0, none⟩) ps.length cp, .slice (some ⟨gn, o, none⟩) xs.length cn, .map (some b)], .int .i64 ((i : Int) + 1), .int .i64 j] W (FromPost ps ns D' b (i + 1) j W))
    (cB : j < xs.length → ∀ W D', CellsKept w W → w.heap.size ≤ W.heap.size → MapIs W b D' → (∀ p ∈ D', i ≤ p.1 → j + 1 ≤ p.2 → sf ps ns p) →
      Calls Tryd.prog 75 #[.agg #[.slice (some ⟨gp, 0, none⟩) ps.length cp, .slice (some ⟨gn, o, none⟩) xs.length cn, .map (some b)], .int .i64 i, .int .i64 ((j : Int) + 1)] W (FromPost ps ns D' b i (j + 1) W))
    (c1 : w.cell? ⟨gp, i * 2, none⟩ = some (.bool true)) (c2 : w.cell? ⟨gp, i * 2 + 1, none⟩ = some (.slice pa pj pc)) :
    Calls Tryd.prog 75 #[.agg #[.slice (some ⟨gp, 0, none⟩) ps.length cp, .slice (some ⟨gn, o, none⟩) xs.length cn, .map (some b)], .int .i64 i, .int .i64 j] w (FromPost ps ns D b i j w) := by
  have hw2 : Below w.heap.size w ((w.alloc (.cells #[.slice (some ⟨gp, 0, none⟩) ps.length cp, .slice (some ⟨gn, o, none⟩) xs.length cn, .map (some b)] 124)).alloc (.cells #[.int .i64 i, .int .i64 j] 145)) := ((Below.refl _ _).alloc (Nat.le_refl _) _).alloc (by simp) _
  have hm2 := hM.same (hw2.block b hM.lt)
  have hl := look_run hm2 i j (by omega) (by omega)
  rw [if_neg hD] at hl
  have Hw2 := Lib.hid hw2
  have Hm2 := Lib.hid hm2
  have hiz : ¬ (i : Int) = ps.length := by omega
  have hilz : (i : Int) < ps.length := by omega
  clear hM hw2 hm2
  go_enter Tryd.func75, Tryd.ntmps75
  have q0 := World.cell?_alloc_at (w := w) #[.slice (some ⟨gp, 0, none⟩) ps.length cp, .slice (some ⟨gn, o, none⟩) xs.length cn, .map (some b)] 124 w.heap.size 0 rfl
  have q1 := World.cell?_alloc_at (w := w) #[.slice (some ⟨gp, 0, none⟩) ps.length cp, .slice (some ⟨gn, o, none⟩) xs.length cn, .map (some b)] 124 w.heap.size 1 rfl
  have q2 := World.cell?_alloc_at (w := w) #[.slice (some ⟨gp, 0, none⟩) ps.length cp, .slice (some ⟨gn, o, none⟩) xs.length cn, .map (some b)] 124 w.heap.size 2 rfl
  have hs1 : (w.alloc (.cells #[.slice (some ⟨gp, 0, none⟩) ps.length cp, .slice (some ⟨gn, o, none⟩) xs.length cn, .map (some b)] 124)).heap.size = w.heap.size + 1 := by simp
  have q3 := World.cell?_alloc_at (w := w.alloc (.cells #[.slice (some ⟨gp, 0, none⟩) ps.length cp, .slice (some ⟨gn, o, none⟩) xs.length cn, .map (some b)] 124)) #[.int .i64 i, .int .i64 j] 145 (w.heap.size + 1) 0 (by simp)
  have q4 := World.cell?_alloc_at (w := w.alloc (.cells #[.slice (some ⟨gp, 0, none⟩) ps.length cp, .slice (some ⟨gn, o, none⟩) xs.length cn, .map (some b)] 124)) #[.int .i64 i, .int .i64 j] 145 (w.heap.size + 1) 1 (by simp)
  have s0 := (World.cell?_alloc_past (w := w.alloc (.cells #[.slice (some ⟨gp, 0, none⟩) ps.length cp, .slice (some ⟨gn, o, none⟩) xs.length cn, .map (some b)] 124)) (.cells #[.int .i64 i, .int .i64 j] 145) w.heap.size 0 (by simp)).trans q0
  have s1 := (World.cell?_alloc_past (w := w.alloc (.cells #[.slice (some ⟨gp, 0, none⟩) ps.length cp, .slice (some ⟨gn, o, none⟩) xs.length cn, .map (some b)] 124)) (.cells #[.int .i64 i, .int .i64 j] 145) w.heap.size 1 (by simp)).trans q1
  have s2 := (World.cell?_alloc_past (w := w.alloc (.cells #[.slice (some ⟨gp, 0, none⟩) ps.length cp, .slice (some ⟨gn, o, none⟩) xs.length cn, .map (some b)] 124)) (.cells #[.int .i64 i, .int .i64 j] 145) w.heap.size 2 (by simp)).trans q2
  have S0 := Lib.hid s0
  have S1 := Lib.hid s1
  have S2 := Lib.hid s2
  have S3 := Lib.hid q3
  have S4 := Lib.hid q4
  clear q0 q1 q2 q3 q4 s0 s1 s2 hs1
  go_wp2_with fail
  generalize hW2 : (w.alloc (.cells #[.slice (some ⟨gp, 0, none⟩) ps.length cp, .slice (some ⟨gn, o, none⟩) xs.length cn, .map (some b)] 124)).alloc (.cells #[.int .i64 i, .int .i64 j] 145) = W2
  rw [hW2] at S0 S1 S2 S3 S4 Hw2 Hm2
  clear hW2 hl
  have hmd : MapIs W2.drew b D := Hm2.out
  have hl8 := look_run hmd i j (by omega) (by omega)
  rw [if_neg hD] at hl8
  obtain ⟨c, W3, W4, hent, hsto0, hg3, hg4, hm4, hl9⟩ := put_one hmd i j (by omega) (by omega) hD
  have hsto : (Instr.entryStore 122 (.map (some b)) (.int .i64 c) (.int .i64 (IntKind.i64.wrap 1))).run Tryd.prog W3 = .ok () W4 := by
    rw [IntWalk.i64_in 1 (by omega)]
    exact hsto0
  have hk3 : CellsKept W2 W3 := by
    obtain ⟨es, cl, hb, _⟩ := Hm2.out
    exact cells_grown hb ⟨hg3.os, hg3.tape, hg3.output, hg3.size, hg3.block⟩
  have hk4 : CellsKept W2 W4 := by
    obtain ⟨es, cl, hb, _⟩ := Hm2.out
    exact cells_grown hb ⟨hg4.os, hg4.tape, hg4.output, hg4.size, hg4.block⟩
  have s0 : W2.cell? ⟨w.heap.size, 0, none⟩ = some (.slice (some ⟨gp, 0, none⟩) ps.length cp) := S0.out
  have s1 : W2.cell? ⟨w.heap.size, 1, none⟩ = some (.slice (some ⟨gn, o, none⟩) xs.length cn) := S1.out
  have s2 : W2.cell? ⟨w.heap.size, 2, none⟩ = some (.map (some b)) := S2.out
  have s3 : W2.cell? ⟨w.heap.size + 1, 0, none⟩ = some (.int .i64 i) := S3.out
  have s4 : W2.cell? ⟨w.heap.size + 1, 1, none⟩ = some (.int .i64 j) := S4.out
  have u0 := CellsKept.cell hk4 s0
  have u1 := CellsKept.cell hk4 s1
  have u2 := CellsKept.cell hk4 s2
  have Hg4 := Lib.hid hg4
  have Hm4 := Lib.hid hm4
  clear hmd hg3 hg4 hm4 hk3 S0 S1 S2 S3 S4
  have hkw4 : CellsKept w W4 := fun k c T z hk => hk4 k c T z (cells_below Hw2.out k c T z hk)
  have hsz4 : w.heap.size ≤ W4.heap.size := Nat.le_trans Hw2.out.size Hg4.out.size
  have hG4 : w.grownBy W4 (some b) := grown_trans (grown_of Hw2.out _) ⟨Hg4.out.os, Hg4.out.tape, Hg4.out.output, Hg4.out.size, Hg4.out.block⟩
  have cA1 := cA W4 (D ++ [(i, j)]) hkw4 hsz4 Hm4.out (fun p hp h1 h2 => by
    simp only [List.mem_append, List.mem_singleton] at hp
    rcases hp with hp | rfl
    · exact hDs p hp (by omega) h2
    · simp only at h1; omega)
  have HK4 := Lib.hid hkw4
  have HG4 := Lib.hid hG4
  have HDs := Lib.hid hDs
  have Hend := Lib.hid hend
  have Hstep := Lib.hid hstep
  have CB := Lib.hid cB
  clear hk4 hkw4 hG4 hDs hend hstep cB cA
  go_region
  go_wp2_with fail
  refine cA1.mono ?_
  rintro e W5 ⟨D5, rfl, hM5, hg5, hD5⟩
  have hk5 : CellsKept W4 W5 := by
    obtain ⟨es, cl, hb, _⟩ := Hm4.out
    exact cells_grown hb hg5
  have v0 := CellsKept.cell hk5 u0
  have v1 := CellsKept.cell hk5 u1
  have v2 := CellsKept.cell hk5 u2
  have HM5 := Lib.hid hM5
  have HG5 := Lib.hid (grown_trans HG4.out hg5)
  have HD5 := Lib.hid hD5
  have HK5 : Hid (CellsKept w W5) := Lib.hid fun k c T z hk => hk5 k c T z (HK4.out k c T z hk)
  have hsz5 : w.heap.size ≤ W5.heap.size := Nat.le_trans hsz4 hg5.size
  clear cA1 hM5 hg5 hD5 hk5 s0 s1 s2 s3 s4 u0 u1 u2 hl8 hl9 hent hsto hsto0
  cases hX : mat (ps.drop (i + 1)) (ns.drop j)
  · have HX := Lib.hid hX
    clear hX
    by_cases hjz : j < xs.length
    · have hjzz : (j : Int) < xs.length := by omega
      have cB1 := CB.out hjz W5 D5 HK5.out hsz5 HM5.out (fun p hp h1 h2 => by
        rcases HD5.out HX.out p hp with h | h
        · simp only [List.mem_append, List.mem_singleton] at h
          rcases h with h | rfl
          · exact HDs.out p h h1 (by omega)
          · simp only at h2; omega
        · exact h)
      have HS := Lib.hid (Hstep.out hjz)
      clear hD
      go_wp2_with fail
      refine cB1.mono ?_
      rintro e W6 ⟨D6, rfl, hM6, hg6, hD6⟩
      have HM6 := Lib.hid hM6
      have HG6 := Lib.hid (grown_trans HG5.out hg6)
      have HD6 := Lib.hid hD6
      clear cB1 hM6 hg6 hD6
      have HY : Hid (mat (ps.drop i) (ns.drop j) = mat (ps.drop i) (ns.drop (j + 1))) := Lib.hid (by rw [HS.out, HX.out]; rfl)
      generalize hY : mat (ps.drop i) (ns.drop (j + 1)) = Y at HY HD6
      clear hY
      go_wp2_with fail
      go_ret
      refine ⟨D6, by rw [HY.out]; rfl, HM6.out, HG6.out, fun hf p hp => ?_⟩
      rcases HD6.out (by rw [← HY.out]; exact hf) p hp with h | h
      · rcases HD5.out HX.out p h with h | h
        · simp only [List.mem_append, List.mem_singleton] at h
          rcases h with h | rfl
          · exact .inl h
          · exact .inr hf
        · exact .inr h
      · exact .inr h
    · have hjzz : ¬ (j : Int) < xs.length := by omega
      have hjd : decide ((j : Int) < xs.length) = false := decide_eq_false hjzz
      have HY : Hid (mat (ps.drop i) (ns.drop j) = false) := Lib.hid (by rw [Hend.out (by omega), HX.out])
      clear hD
      go_wp2_with fail
      go_ret
      refine ⟨D5, by rw [HY.out]; rfl, HM5.out, HG5.out, fun hf p hp => ?_⟩
      rcases HD5.out HX.out p hp with h | h
      · simp only [List.mem_append, List.mem_singleton] at h
        rcases h with h | rfl
        · exact .inl h
        · exact .inr hf
      · exact .inr h
  · have HX := Lib.hid hX
    clear hX
    have HY : Hid (mat (ps.drop i) (ns.drop j) = true) := Lib.hid (by
      by_cases hjz : j < xs.length
      · rw [Hstep.out hjz, HX.out]; rfl
      · rw [Hend.out (by omega), HX.out])
    clear hD
    go_wp2_with fail
    go_ret
    exact ⟨D5, by rw [HY.out]; rfl, HM5.out, HG5.out, fun hf => by rw [HY.out] at hf; cases hf⟩
end GH
end Go.Proofs.YtechekdiadpmoaaDoor
