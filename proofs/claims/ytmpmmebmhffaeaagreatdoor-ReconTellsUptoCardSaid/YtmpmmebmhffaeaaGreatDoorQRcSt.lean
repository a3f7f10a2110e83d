/- Layer 12: the contracts of isDir, standing, bothDirs, item: three values in memory with what stands right in each. -/
import Derived.Test.YtmpmmebmhffaeaaGreatDoorQRcIn
set_option linter.all false
set_option maxRecDepth 100000
set_option maxHeartbeats 25600000
namespace Go.Proofs.YtmpmmebmhffaeaaGreatDoor
open Go.RowKit Go.Lib Go.Maps Go.BigFrame
namespace RC
open OM TP TM TR TG

theorem Grp.below {W W' : World} {base b n : Nat} {D : DataW Value} {G : List UInt8 → List Nd} (h : Grp W base b n D G) (hb : Below W.heap.size W W') : Grp W' base b n D G :=
  h.kept ⟨hb.os, hb.tape, hb.output, hb.size, fun k hk _ => hb.block k hk⟩
/-- A value of a tree, of bounded bulk. -/
structure InV (v : List Nd) : Prop where
  len : v.length ≤ 1001
  small : SmallG v
  pre : ∀ x ∈ v, (hdP v).length ≤ x.path.length
/-- Three values at a path, and what stands right in them. -/
structure TrAt (W : World) (p : List UInt8) (o a b : List Nd) (b1 b2 b3 : Nat) (vo va vb : Value) : Prop where
  g1 : ∃ n D, n ≤ 1001 ∧ Grp W (b1 + 1) b1 n D (subL o)
  g2 : ∃ n D, n ≤ 1001 ∧ Grp W (b2 + 1) b2 n D (subL a)
  g3 : ∃ n D, n ≤ 1001 ∧ Grp W (b3 + 1) b3 n D (subL b)
  lo : ∃ ao c, vo = .slice ao o.length c ∧ LayN W ao o ∧ (ao = none → c = 0) ∧ o.length ≤ c
  la : ∃ ao c, va = .slice ao a.length c ∧ LayN W ao a ∧ (ao = none → c = 0) ∧ a.length ≤ c
  lb : ∃ ao c, vb = .slice ao b.length c ∧ LayN W ao b ∧ (ao = none → c = 0) ∧ b.length ≤ c
theorem TrAt.below {W W' : World} {p : List UInt8} {o a b : List Nd} {b1 b2 b3 : Nat} {vo va vb : Value} (h : TrAt W p o a b b1 b2 b3 vo va vb) (hb : Below W.heap.size W W') : TrAt W' p o a b b1 b2 b3 vo va vb := by
  obtain ⟨⟨n1, D1, j1, g1⟩, ⟨n2, D2, j2, g2⟩, ⟨n3, D3, j3, g3⟩, ⟨x1, c1, e1, l1, z1⟩, ⟨x2, c2, e2, l2, z2⟩, ⟨x3, c3, e3, l3, z3⟩⟩ := h
  exact ⟨⟨n1, D1, j1, g1.below hb⟩, ⟨n2, D2, j2, g2.below hb⟩, ⟨n3, D3, j3, g3.below hb⟩, ⟨x1, c1, e1, l1.below hb, z1⟩, ⟨x2, c2, e2, l2.below hb, z2⟩, ⟨x3, c3, e3, l3.below hb, z3⟩⟩
theorem row7 {W : World} {b : Nat} {a0 a1 a2 a3 a4 a5 a6 : Value} {t : TypeId} (h : W.heap[b]? = some (.cells #[a0, a1, a2, a3, a4, a5, a6] t (0, 0))) :
    W.cell? ⟨b, 0, none⟩ = some a0 ∧ W.cell? ⟨b, 1, none⟩ = some a1 ∧ W.cell? ⟨b, 2, none⟩ = some a2 ∧ W.cell? ⟨b, 3, none⟩ = some a3 ∧ W.cell? ⟨b, 4, none⟩ = some a4 ∧ W.cell? ⟨b, 5, none⟩ = some a5 ∧ W.cell? ⟨b, 6, none⟩ = some a6 ∧ ∀ j, W.frozen? ⟨b, j, none⟩ = false :=
  ⟨by rw [cell_of_row W b 0 _ _ _ h]; rfl, by rw [cell_of_row W b 1 _ _ _ h]; rfl, by rw [cell_of_row W b 2 _ _ _ h]; rfl, by rw [cell_of_row W b 3 _ _ _ h]; rfl, by rw [cell_of_row W b 4 _ _ _ h]; rfl, by rw [cell_of_row W b 5 _ _ _ h]; rfl, by rw [cell_of_row W b 6 _ _ _ h]; rfl, fun j => frozen_of_row W b j _ _ h⟩
theorem grown_set (w : World) (a : Addr) (u : Value) : w.grownBy (w.setCell a u) (some a.block) :=
  ⟨rfl, rfl, rfl, by simp, fun k _ hk => heap_setCell_other w a k u (fun e => hk (by rw [e]))⟩
theorem grown7 (w : World) (b : Nat) (u0 u1 u2 u3 u4 u5 u6 : Value) : w.grownBy (((((((w.setCell ⟨b, 0, none⟩ u0).setCell ⟨b, 1, none⟩ u1).setCell ⟨b, 2, none⟩ u2).setCell ⟨b, 3, none⟩ u3).setCell ⟨b, 4, none⟩ u4).setCell ⟨b, 5, none⟩ u5).setCell ⟨b, 6, none⟩ u6) (some b) :=
  (((((((grown_set w ⟨b, 0, none⟩ u0).trans (grown_set _ ⟨b, 1, none⟩ u1)).trans (grown_set _ ⟨b, 2, none⟩ u2)).trans (grown_set _ ⟨b, 3, none⟩ u3)).trans (grown_set _ ⟨b, 4, none⟩ u4)).trans (grown_set _ ⟨b, 5, none⟩ u5)).trans (grown_set _ ⟨b, 6, none⟩ u6))
theorem set_step {w : World} {b i : Nat} {cs cs' : Array Value} {t : TypeId} {v : Value} (h : w.heap[b]? = some (.cells cs t (0, 0))) (e : cs.setIfInBounds i v = cs') : (w.setCell ⟨b, i, none⟩ v).heap[b]? = some (.cells cs' t (0, 0)) := by
  rw [← e]
  exact heap_setCell_same w b i cs t v h
theorem set7 (w : World) (b : Nat) (u0 u1 u2 u3 u4 u5 u6 : Value) {a0 a1 a2 a3 a4 a5 a6 : Value} {t : TypeId} (h : w.heap[b]? = some (.cells #[a0, a1, a2, a3, a4, a5, a6] t (0, 0))) :
    (((((((w.setCell ⟨b, 0, none⟩ u0).setCell ⟨b, 1, none⟩ u1).setCell ⟨b, 2, none⟩ u2).setCell ⟨b, 3, none⟩ u3).setCell ⟨b, 4, none⟩ u4).setCell ⟨b, 5, none⟩ u5).setCell ⟨b, 6, none⟩ u6).heap[b]? = some (.cells #[u0, u1, u2, u3, u4, u5, u6] t (0, 0)) := by
  obtain ⟨W0, e0⟩ : ∃ W, w.setCell ⟨b, 0, none⟩ u0 = W := ⟨_, rfl⟩
  rw [e0]
  have h0 : W0.heap[b]? = some (.cells #[u0, a1, a2, a3, a4, a5, a6] t (0, 0)) := by rw [← e0]; exact set_step h (by simp)
  obtain ⟨W1, e1⟩ : ∃ W, W0.setCell ⟨b, 1, none⟩ u1 = W := ⟨_, rfl⟩
  rw [e1]
  have h1 : W1.heap[b]? = some (.cells #[u0, u1, a2, a3, a4, a5, a6] t (0, 0)) := by rw [← e1]; exact set_step h0 (by simp)
  obtain ⟨W2, e2⟩ : ∃ W, W1.setCell ⟨b, 2, none⟩ u2 = W := ⟨_, rfl⟩
  rw [e2]
  have h2 : W2.heap[b]? = some (.cells #[u0, u1, u2, a3, a4, a5, a6] t (0, 0)) := by rw [← e2]; exact set_step h1 (by simp)
  obtain ⟨W3, e3⟩ : ∃ W, W2.setCell ⟨b, 3, none⟩ u3 = W := ⟨_, rfl⟩
  rw [e3]
  have h3 : W3.heap[b]? = some (.cells #[u0, u1, u2, u3, a4, a5, a6] t (0, 0)) := by rw [← e3]; exact set_step h2 (by simp)
  obtain ⟨W4, e4⟩ : ∃ W, W3.setCell ⟨b, 4, none⟩ u4 = W := ⟨_, rfl⟩
  rw [e4]
  have h4 : W4.heap[b]? = some (.cells #[u0, u1, u2, u3, u4, a5, a6] t (0, 0)) := by rw [← e4]; exact set_step h3 (by simp)
  obtain ⟨W5, e5⟩ : ∃ W, W4.setCell ⟨b, 5, none⟩ u5 = W := ⟨_, rfl⟩
  rw [e5]
  have h5 : W5.heap[b]? = some (.cells #[u0, u1, u2, u3, u4, u5, a6] t (0, 0)) := by rw [← e5]; exact set_step h4 (by simp)
  obtain ⟨W6, e6⟩ : ∃ W, W5.setCell ⟨b, 6, none⟩ u6 = W := ⟨_, rfl⟩
  rw [e6]
  have h6 : W6.heap[b]? = some (.cells #[u0, u1, u2, u3, u4, u5, u6] t (0, 0)) := by rw [← e6]; exact set_step h5 (by simp)
  exact h6
theorem below_of_grown {w w' : World} {b B : Nat} (h : w.grownBy w' (some b)) (hb : B ≤ b) (hB : B ≤ w.heap.size) : Below B w w' :=
  ⟨h.os, h.tape, h.output, h.size, fun k hk => h.block k (by omega) (fun e => by injection e with e; omega)⟩
/-- What lies ahead of a map turns. -/
theorem Grp.beside {W W' : World} {base b n : Nat} {D : DataW Value} {G : List UInt8 → List Nd} (h : Grp W base b n D G) {q : Nat} (hg : W.grownBy W' (some q)) (hq : q < b) : Grp W' base b n D G :=
  { h with map := h.map.kept hg (by intro e; injection e with e; omega), own := fun k v hv => (h.own k v hv).kept hg (by
      cases e1 : v.ownBlock with
      | none => exact .inl rfl
      | some g =>
        refine .inr (fun e2 => ?_)
        have := ((h.own k v hv).lt g e1).1
        have := h.lt
        injection e2 with e2
        omega) }
def trV (p : List UInt8) (b1 b2 b3 : Nat) (vo va vb : Value) : Value := .agg #[.map (some b1), .map (some b2), .map (some b3), txt p, vo, va, vb]
set_option maxRecDepth 100000 in
set_option maxHeartbeats 1600000 in
theorem isDir_any (ao : Option Addr) (cap : Nat) (v : List Nd) (w : World) (h : LayN w ao v) (hl : v.length ≤ maxLen) :
    Calls Tryz.prog 42 #[.slice ao v.length cap] w fun r w' => r = .returned (.bool (dirV v)) ∧ w' = w := by
  unfold maxLen at hl
  cases v with
  | nil =>
    go_enter Tryz.func42, Tryz.ntmps42
    repeat (first | go_skip | go_guarded | go_step | go_upon)
    go_ret
    exact ⟨rfl, rfl⟩
  | cons x r =>
    obtain ⟨g, o, rfl, hg, hcell⟩ := h (by simp)
    obtain ⟨-, c1, -, -⟩ := hcell 0 x rfl
    rw [Nat.zero_mul, Nat.add_zero] at c1
    obtain ⟨N, hN⟩ : ∃ N, (x :: r).length = N := ⟨_, rfl⟩
    have hN0 : 0 < N := by rw [← hN]; simp
    have hNz : (N : Int) > 0 := by omega
    have hNy : (0 : Int) < N := by omega
    have hd : dirV (x :: r) = decide (x.kind = 2) := rfl
    rw [hN] at hl ⊢
    rw [hd]
    go_enter Tryz.func42, Tryz.ntmps42
    repeat (first | go_skip | go_guarded | go_step | go_upon)
    go_ret
    refine ⟨?_, rfl⟩
    first | rfl | (congr 2; by_cases h2 : x.kind = 2 <;> simp [h2])
set_option maxRecDepth 100000 in
set_option maxHeartbeats 1600000 in
theorem standing_any (p : List UInt8) (ao aa ab : Option Addr) (co ca cb : Nat) (o a b : List Nd) (w : World) (he : NF.Env w) (ho : LayN w ao o) (ha : LayN w aa a) (hb : LayN w ab b) (io : InV o) (ia : InV a) (ib : InV b) (zo : (ao = none → co = 0) ∧ o.length ≤ co) (za : (aa = none → ca = 0) ∧ a.length ≤ ca) (zb : (ab = none → cb = 0) ∧ b.length ≤ cb) :
    Calls Tryz.prog 21 #[txt p, .slice ao o.length co, .slice aa a.length ca, .slice ab b.length cb] w fun r w' => ∃ b1 b2 b3, r = .returned (trV p b1 b2 b3 (.slice ao o.length co) (.slice aa a.length ca) (.slice ab b.length cb)) ∧ TrAt w' p o a b b1 b2 b3 (.slice ao o.length co) (.slice aa a.length ca) (.slice ab b.length cb) ∧ Below w.heap.size w w' ∧ w.heap.size ≤ b1 ∧ w.heap.size ≤ b2 ∧ w.heap.size ≤ b3 := by
  obtain ⟨S, hS, hSd⟩ := txt_of p
  rw [hS]
  have HE := Lib.hid he
  have IO : Hid (∀ W, Below w.heap.size w W → Calls Tryz.prog 38 #[.slice ao o.length co] W fun r w' => ∃ D n, r = .returned (.map (some W.heap.size)) ∧ n ≤ o.length ∧ Grp w' (W.heap.size + 1) W.heap.size n D (subL o) ∧ Below W.heap.size W w') := Lib.hid (fun W hW => inside_any ao co o W (he.below hW) (ho.below hW) io.len io.small io.pre)
  have IA : Hid (∀ W, Below w.heap.size w W → Calls Tryz.prog 38 #[.slice aa a.length ca] W fun r w' => ∃ D n, r = .returned (.map (some W.heap.size)) ∧ n ≤ a.length ∧ Grp w' (W.heap.size + 1) W.heap.size n D (subL a) ∧ Below W.heap.size W w') := Lib.hid (fun W hW => inside_any aa ca a W (he.below hW) (ha.below hW) ia.len ia.small ia.pre)
  have IB : Hid (∀ W, Below w.heap.size w W → Calls Tryz.prog 38 #[.slice ab b.length cb] W fun r w' => ∃ D n, r = .returned (.map (some W.heap.size)) ∧ n ≤ b.length ∧ Grp w' (W.heap.size + 1) W.heap.size n D (subL b) ∧ Below W.heap.size W w') := Lib.hid (fun W hW => inside_any ab cb b W (he.below hW) (hb.below hW) ib.len ib.small ib.pre)
  have HO := Lib.hid ho
  have HA := Lib.hid ha
  have HB := Lib.hid hb
  have h1000 := io.len
  have h2000 := ia.len
  have h3000 := ib.len
  clear he ho ha hb io ia ib
  obtain ⟨lo, hlo⟩ : ∃ n, o.length = n := ⟨_, rfl⟩
  obtain ⟨la, hla⟩ : ∃ n, a.length = n := ⟨_, rfl⟩
  obtain ⟨lb, hlb⟩ : ∃ n, b.length = n := ⟨_, rfl⟩
  have h10 : lo ≤ 1001 := by rw [← hlo]; exact h1000
  have h20 : la ≤ 1001 := by rw [← hla]; exact h2000
  have h30 : lb ≤ 1001 := by rw [← hlb]; exact h3000
  rw [hlo] at IO ⊢
  rw [hla] at IA ⊢
  rw [hlb] at IB ⊢
  go_enter Tryz.func21, Tryz.ntmps21
  repeat (first | go_skip | go_guarded | go_step | go_upon)
  obtain ⟨W0, hW0⟩ : ∃ W0, (w.alloc (.cells #[.map none, .map none, .map none, .string ⟨#[]⟩, .slice none 0 0, .slice none 0 0, .slice none 0 0] 49)) = W0 := ⟨_, rfl⟩
  have r0 : W0.heap[w.heap.size]? = some (.cells #[.map none, .map none, .map none, .string ⟨#[]⟩, .slice none 0 0, .slice none 0 0, .slice none 0 0] 49 (0, 0)) := by rw [← hW0]; exact heap_alloc_new _ _
  have B0 : Hid (Below w.heap.size w W0) := Lib.hid (by rw [← hW0]; exact (Below.refl _ _).alloc (Nat.le_refl _) _)
  have s0 : W0.heap.size = w.heap.size + 1 := by rw [← hW0]; simp
  rw [hW0]
  clear hW0
  refine (IO.out _ B0.out).mono ?_
  rintro r w1 ⟨D1, n1, rfl, j1, g1, b1⟩
  simp only []
  have B1 := Lib.hid (Below.trans B0.out (b1.mono B0.out.size))
  have r1 := (b1.block w.heap.size (by omega)).trans r0
  have s1 := b1.size
  repeat (first | go_skip | go_guarded | go_step | go_upon)
  refine (IA.out _ B1.out).mono ?_
  rintro r w2 ⟨D2, n2, rfl, j2, g2, b2⟩
  simp only []
  have B2 := Lib.hid (Below.trans B1.out (b2.mono B1.out.size))
  have r2 := (b2.block w.heap.size (by omega)).trans r1
  have s2 := b2.size
  have g12 := g1.below b2
  repeat (first | go_skip | go_guarded | go_step | go_upon)
  refine (IB.out _ B2.out).mono ?_
  rintro r w3 ⟨D3, n3, rfl, j3, g3, b3⟩
  simp only []
  have B3 := Lib.hid (Below.trans B2.out (b3.mono B2.out.size))
  have r3 := (b3.block w.heap.size (by omega)).trans r2
  have g13 := Lib.hid (g12.below b3)
  have g23 := Lib.hid (g2.below b3)
  have g33 := Lib.hid g3
  clear r0 r1 r2 g1 g2 g3 g12 b1 b2 b3
  obtain ⟨c0, c1, c2, c3, c4, c5, c6, cf⟩ := row7 r3
  have R3 := Lib.hid r3
  clear r3
  repeat (first | go_skip | go_guarded | go_step | go_upon)
  have gz := grown7 w3 w.heap.size (.map (some (w.heap.size + 1))) (.map (some w1.heap.size)) (.map (some w2.heap.size)) (.string S) (.slice ao lo co) (.slice aa la ca) (.slice ab lb cb)
  have rz := set7 w3 w.heap.size (.map (some (w.heap.size + 1))) (.map (some w1.heap.size)) (.map (some w2.heap.size)) (.string S) (.slice ao lo co) (.slice aa la ca) (.slice ab lb cb) R3.out
  refine bodyPost_ret (v := trV p (w.heap.size + 1) w1.heap.size w2.heap.size (.slice ao lo co) (.slice aa la ca) (.slice ab lb cb)) ?_ rfl ⟨w.heap.size + 1, w1.heap.size, w2.heap.size, rfl, ?_, ?_, by omega, by omega, by omega⟩
  · unfold trV
    rw [hS]
    exact results_cell_row rfl _ _ w.heap.size 49 _ (0, 0) _ rfl rz Tryz.underlying49 rfl (by kernel_rfl)
  · have hg1 := g13.out
    rw [s0] at hg1
    have hb := Below.trans B3.out (below_of_grown gz (Nat.le_refl _) B3.out.size)
    exact ⟨⟨_, _, Nat.le_trans j1 h10, hg1.beside gz (by omega)⟩, ⟨_, _, Nat.le_trans j2 h20, g23.out.beside gz (by omega)⟩, ⟨_, _, Nat.le_trans j3 h30, g33.out.beside gz (by omega)⟩, ⟨ao, co, by rw [hlo], HO.out.below hb, zo⟩, ⟨aa, ca, by rw [hla], HA.out.below hb, za⟩, ⟨ab, cb, by rw [hlb], HB.out.below hb, zb⟩⟩
  · exact Below.trans B3.out (below_of_grown gz (Nat.le_refl _) B3.out.size)
end RC
end Go.Proofs.YtmpmmebmhffaeaaGreatDoor
