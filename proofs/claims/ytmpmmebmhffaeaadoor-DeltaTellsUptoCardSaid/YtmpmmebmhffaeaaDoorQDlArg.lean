/- Layer 14: lists of blocks and of steps out of the arguments, and copied. -/
import Derived.Test.YtmpmmebmhffaeaaDoorQDlSign
import Derived.Test.YtmpmmebmhffaeaaDoorQDlFind
import Derived.Test.YtmpmmebmhffaeaaDoorQKit
import Derived.Test.YtmpmmebmhffaeaaDoorRows
import Derived.Deep.Slices
import Derived.Deep.SlicePairs
import Derived.Lib.SmallJoins
import Derived.ProofKit
import Derived.OpenShut
set_option linter.all false
set_option maxRecDepth 100000
set_option maxHeartbeats 25600000
namespace Go.Proofs.YtmpmmebmhffaeaaDoor
open Go.RowKit Go.Lib Go.BigFrame Go.Maps
namespace DM
open OM DL HP HS

theorem add_plain (b off k : Nat) : (⟨b, off, none⟩ : Addr).add k = ⟨b, off + k, none⟩ := by unfold Addr.add; split <;> simp_all
section
variable {α : Type} {p q r : α → Value}
theorem c3_cell {W : World} {g o : Nat} {L : List α} (hc : ∀ (i : Nat) (x : α), L[i]? = some x → W.cell? ⟨g, o + i * 3, none⟩ = some (p x) ∧ W.cell? ⟨g, o + i * 3 + 1, none⟩ = some (q x) ∧ W.cell? ⟨g, o + i * 3 + 2, none⟩ = some (r x)) :
    ∀ (j : Nat) (u : Value), (c3 p q r L)[j]? = some u → W.cell? ((⟨g, o, none⟩ : Addr).add j) = some u := by
  intro j u hu
  have hj := (List.getElem?_eq_some_iff.1 hu).1
  rw [c3_len] at hj
  obtain ⟨i, k, hk, rfl⟩ : ∃ i k, k < 3 ∧ j = i * 3 + k := ⟨j / 3, j % 3, Nat.mod_lt _ (by decide), by omega⟩
  have hi : i < L.length := by omega
  have hx : L[i]? = some L[i] := List.getElem?_eq_getElem hi
  obtain ⟨a, b, c⟩ := c3_at (p := p) (q := q) (r := r) L i _ hx
  obtain ⟨a', b', c'⟩ := hc i _ hx
  rw [add_plain]
  rcases (by omega : k = 0 ∨ k = 1 ∨ k = 2) with rfl | rfl | rfl
  · rw [Nat.add_zero] at hu ⊢
    rw [← hu, a, ← a']
  · rw [← hu, b, ← b']
    rfl
  · rw [← hu, c, ← c']
    rfl
theorem c3_one (L : List α) (h : ∀ x, (p x).oneCell' = true ∧ (q x).oneCell' = true ∧ (r x).oneCell' = true) : ∀ u ∈ c3 p q r L, u.oneCell' = true := by
  intro u hu
  unfold c3 at hu
  obtain ⟨x, _, hx⟩ := List.mem_flatMap.1 hu
  obtain ⟨h1, h2, h3⟩ := h x
  simp at hx
  rcases hx with rfl | rfl | rfl
  · exact h1
  · exact h2
  · exact h3
end
theorem run_copyO (W : World) (base : Nat) (ao : Option Addr) (cap n m : Nat) (xs : List Value) (l : List Stp) (v : Value) (hl : Lay3 oF oC oT W ao l) (hown : W.ownsRow base 46 3 v m xs) (hb : base ≤ W.heap.size) (hn : m + l.length ≤ 4194304) (hnn : l.length = n) :
    ∃ v' w', (Builtin.append_ #[34, 34] 34 #[v, .slice ao n cap]).run Tryd.prog W = .ok v' w' ∧ w'.ownsRow base 46 3 v' (m + n) (xs ++ c3 oF oC oT l) ∧ W.grownBy w' v.ownBlock := by
  obtain ⟨i1, hi1, hy0, hy1, hy2⟩ := HR.info_parts (t := 46) infoO
  subst hnn
  by_cases h0 : 0 < l.length
  · obtain ⟨g, o, e, hlt, hc⟩ := hl h0
    subst e
    obtain ⟨v', w', h1, h2, h3, -⟩ := run_append_own (P := Tryd.prog) (w := W) base 34 34 46 i1 _ 3 32 Tryd.underlying34 hi1 hy0 hy1 hy2 rfl (by decide) v m xs hown ⟨g, o, none⟩ l.length cap (c3 oF oC oT l) (c3_len l) (c3_cell hc) (c3_one l (fun x => ⟨rfl, rfl, rfl⟩)) (by unfold maxLen; omega) (by omega) hb
    exact ⟨v', w', h1, h2, h3⟩
  · obtain rfl : l = [] := by cases l with | nil => rfl | cons _ _ => simp at h0
    cases ao with
    | some a0 =>
      obtain ⟨v', w', h1, h2, h3, -⟩ := run_append_own (P := Tryd.prog) (w := W) base 34 34 46 i1 _ 3 32 Tryd.underlying34 hi1 hy0 hy1 hy2 rfl (by decide) v m xs hown a0 0 cap [] rfl (fun j u hu => by simp at hu) (fun u hu => by simp at hu) (by unfold maxLen; simp at hn; omega) (by simp at hn; omega) hb
      exact ⟨v', w', h1, h2, h3⟩
    | none =>
      refine ⟨v, W, ?_, by rw [List.length_nil, Nat.add_zero]; exact (List.append_nil xs).symm ▸ hown, ⟨rfl, rfl, rfl, Nat.le_refl _, fun _ _ _ => rfl⟩⟩
      show (Builtin.append_ #[34, 34] 34 #[v, .slice none 0 cap]).run Tryd.prog W = .ok v W
      rcases hown.2 with ⟨rfl, h4⟩ | ⟨g, cap', cur, rfl, _, _, hnc, _⟩
      · simp [Builtin.append_, run_underlying Tryd.underlying34, sizeOf, typeInfo, hi1, Builtin.lenOf, Builtin.firstCells]
      · simp [Builtin.append_, run_underlying Tryd.underlying34, sizeOf, typeInfo, hi1, Builtin.lenOf, Builtin.firstCells, hnc, storeCells]
theorem run_copyB (W : World) (base : Nat) (ao : Option Addr) (cap n m : Nat) (xs : List Value) (l : List Bk) (v : Value) (hl : Lay3 bW bS bN W ao l) (hown : W.ownsRow base 33 3 v m xs) (hb : base ≤ W.heap.size) (hn : m + l.length ≤ 4194304) (hnn : l.length = n) :
    ∃ v' w', (Builtin.append_ #[22, 22] 22 #[v, .slice ao n cap]).run Tryd.prog W = .ok v' w' ∧ w'.ownsRow base 33 3 v' (m + n) (xs ++ c3 bW bS bN l) ∧ W.grownBy w' v.ownBlock := by
  obtain ⟨i1, hi1, hy0, hy1, hy2⟩ := HR.info_parts (t := 33) infoB
  subst hnn
  by_cases h0 : 0 < l.length
  · obtain ⟨g, o, e, hlt, hc⟩ := hl h0
    subst e
    obtain ⟨v', w', h1, h2, h3, -⟩ := run_append_own (P := Tryd.prog) (w := W) base 22 22 33 i1 _ 3 32 Tryd.underlying22 hi1 hy0 hy1 hy2 rfl (by decide) v m xs hown ⟨g, o, none⟩ l.length cap (c3 bW bS bN l) (c3_len l) (c3_cell hc) (c3_one l (fun x => ⟨rfl, rfl, rfl⟩)) (by unfold maxLen; omega) (by omega) hb
    exact ⟨v', w', h1, h2, h3⟩
  · obtain rfl : l = [] := by cases l with | nil => rfl | cons _ _ => simp at h0
    cases ao with
    | some a0 =>
      obtain ⟨v', w', h1, h2, h3, -⟩ := run_append_own (P := Tryd.prog) (w := W) base 22 22 33 i1 _ 3 32 Tryd.underlying22 hi1 hy0 hy1 hy2 rfl (by decide) v m xs hown a0 0 cap [] rfl (fun j u hu => by simp at hu) (fun u hu => by simp at hu) (by unfold maxLen; simp at hn; omega) (by simp at hn; omega) hb
      exact ⟨v', w', h1, h2, h3⟩
    | none =>
      refine ⟨v, W, ?_, by rw [List.length_nil, Nat.add_zero]; exact (List.append_nil xs).symm ▸ hown, ⟨rfl, rfl, rfl, Nat.le_refl _, fun _ _ _ => rfl⟩⟩
      show (Builtin.append_ #[22, 22] 22 #[v, .slice none 0 cap]).run Tryd.prog W = .ok v W
      rcases hown.2 with ⟨rfl, h4⟩ | ⟨g, cap', cur, rfl, _, _, hnc, _⟩
      · simp [Builtin.append_, run_underlying Tryd.underlying22, sizeOf, typeInfo, hi1, Builtin.lenOf, Builtin.firstCells]
      · simp [Builtin.append_, run_underlying Tryd.underlying22, sizeOf, typeInfo, hi1, Builtin.lenOf, Builtin.firstCells, hnc, storeCells]
theorem bulk_pos {H : Type} (d : DataW H) : 1 ≤ Rows.uptoBulk d := by
  cases d with
  | lit l => cases l <;> simp [Rows.uptoBulk]
  | _ => simp [Rows.uptoBulk]
theorem bulk_len {H : Type} : ∀ (l : List (DataW H)), l.length ≤ Rows.uptoBulkAll l
  | [] => Nat.zero_le _
  | d :: r => by
    have := bulk_pos d
    have := bulk_len r
    rw [Rows.uptoBulkAll, List.length_cons]
    omega
theorem bulk_mem {H : Type} {d : DataW H} : ∀ {l : List (DataW H)}, d ∈ l → Rows.uptoBulk d ≤ Rows.uptoBulkAll l
  | e :: r, h => by
    rw [Rows.uptoBulkAll]
    rcases List.mem_cons.1 h with rfl | h
    · omega
    · have := bulk_mem h
      omega
section
open Go.Deep Go.ChangeShapes Go.WideShapes Go.ChangeAt
variable {H : Type} {enc : TypeId × Value → H} {P : Program} {W : World} {base : Nat} {spare : Nat → Bool} {held : Bool}
theorem triples {t e : TypeId} {f0 f1 f2 : Field} {fuel : Nat} {cs : List Value} {x : DataW H × List MemPlace} (ht : P.underlying t = some (.slice e)) (he : P.underlying e = some (.struct #[f0, f1, f2]))
    (ce : P.cellsOf e = 3) (o0 : f0.offset = 0) (o1 : f1.offset = 1) (o2 : f2.offset = 2) (c0 : P.cellsOf f0.type = 1) (c1 : P.cellsOf f1.type = 1) (c2 : P.cellsOf f2.type = 1)
    (h : DataW.trod enc P W base spare held fuel t cs = some x) :
    cs = [.slice none 0 0] ∨
    ∃ (a : Addr) (len cap n : Nat) (D : Nat → DataW H) (sp : List (DataW H)), cs = [.slice (some a) len cap] ∧ len ≤ cap ∧ cap ≤ maxLen ∧ x.1 = .slice ((List.range len).map D) sp ∧
      ∀ i, i < len → ∃ (v0 v1 v2 : Value) (y0 y1 y2 : DataW H × List MemPlace), W.cell? (a.add (i * 3)) = some v0 ∧ W.cell? (a.add (i * 3 + 1)) = some v1 ∧ W.cell? (a.add (i * 3 + 2)) = some v2 ∧
        DataW.trod enc P W base spare held n f0.type [v0] = some y0 ∧ DataW.trod enc P W base spare held n f1.type [v1] = some y1 ∧ DataW.trod enc P W base spare held n f2.type [v2] = some y2 ∧ D i = .agg [y0.1, y1.1, y2.1] := by
  rcases open_slice ht h with h0 | ⟨a, len, cap, m, n, D, Pl, rfl, hb, hl, hm, hmm, rfl, hx⟩
  · exact Or.inl h0.1
  right
  have hlm : len ≤ m := by rw [hmm]; split <;> omega
  refine ⟨a, len, cap, n - 1, D, _, rfl, hl, hm, rfl, fun i hi => ?_⟩
  obtain ⟨cs', h1, h2⟩ := hx i (by omega)
  rw [ce] at h1
  obtain ⟨_, hlen, hcell⟩ := World.cells?_some h1
  obtain ⟨xs, k, hk, hxy, _, hxl, hf⟩ := DataW.trod_struct he h2
  have hk' : k = n - 1 := by omega
  subst hk'
  match xs, hxl, cs', hlen with
  | [y0, y1, y2], _, [v0, v1, v2], _ =>
    have g0 := hf 0 f0 rfl
    have g1 := hf 1 f1 rfl
    have g2 := hf 2 f2 rfl
    simp [o0, o1, o2, c0, c1, c2] at g0 g1 g2
    have e0 := hcell 0 (by omega)
    have e1 := hcell 1 (by omega)
    have e2 := hcell 2 (by omega)
    rw [add_add] at e0 e1 e2
    have hD : D i = .agg [y0.1, y1.1, y2.1] := by
      have := congrArg Prod.fst hxy
      simpa using this
    exact ⟨v0, v1, v2, y0, y1, y2, by simpa using e0, by simpa using e1, by simpa using e2, g0, g1, g2, hD⟩
theorem ops_arg {f0 f1 f2 : Field} {fuel len cap : Nat} {a0 : Option Addr} {x : DataW H × List MemPlace} (he : Tryd.prog.underlying 46 = some (.struct #[f0, f1, f2]))
    (o0 : f0.offset = 0) (o1 : f1.offset = 1) (o2 : f2.offset = 2) (k0 : f0.type = 3) (k1 : f1.type = 3) (k2 : f2.type = 9)
    (h : DataW.trod enc Tryd.prog W 0 spare held fuel 34 (Value.slice a0 len cap).cells.toList = some x) (hb : Rows.uptoBulk x.1 ≤ 1048576) :
    ∃ L : List Stp, L.length = len ∧ LayO W a0 L ∧ L.length ≤ 1048576 ∧ ∀ y ∈ L, y.2.2.length ≤ 1048576 := by
  rcases triples Tryd.underlying34 he (by kernel_rfl) o0 o1 o2 (by rw [k0]; kernel_rfl) (by rw [k1]; kernel_rfl) (by rw [k2]; kernel_rfl) h with hcs | ⟨ad, len', cap', n, D, sp, hcs, hl, hm, hx, hcell⟩
  · simp [Value.cells] at hcs
    obtain ⟨rfl, rfl, rfl⟩ := hcs
    exact ⟨[], rfl, Lay3.nil _ _, by simp, fun y hy => by cases hy⟩
  · simp [Value.cells] at hcs
    obtain ⟨rfl, rfl, rfl⟩ := hcs
    rw [hx] at hb
    simp only [Rows.uptoBulk] at hb
    have hlen : len ≤ 1048576 := by
      have := bulk_len ((List.range len).map D)
      rw [List.length_map, List.length_range] at this
      omega
    have hch : ∀ i, i < len → ∃ y : Stp, W.cell? (ad.add (i * 3)) = some (oF y) ∧ W.cell? (ad.add (i * 3 + 1)) = some (oC y) ∧ W.cell? (ad.add (i * 3 + 2)) = some (oT y) ∧ y.2.2.length ≤ 1048576 := by
      intro i hi
      obtain ⟨v0, v1, v2, y0, y1, y2, e0, e1, e2, t0, t1, t2, hD⟩ := hcell i hi
      rw [k0] at t0
      rw [k1] at t1
      rw [k2] at t2
      obtain ⟨i0, g0, d0, _⟩ := DataW.trod_int (by exact Tryd.underlying3) t0
      obtain ⟨i1, g1, d1, _⟩ := DataW.trod_int (by exact Tryd.underlying3) t1
      obtain ⟨s2, g2, d2, _⟩ := DataW.trod_string (by exact Tryd.underlying9) t2
      simp only [List.cons.injEq, and_true] at g0 g1 g2
      have hm := bulk_mem (d := D i) (l := (List.range len).map D) (List.mem_map.2 ⟨i, List.mem_range.2 hi, rfl⟩)
      rw [hD, d2] at hm
      simp only [Rows.uptoBulk, Rows.uptoBulkAll] at hm
      exact ⟨⟨i0, i1, s2.data.toList⟩, by rw [e0, g0]; rfl, by rw [e1, g1]; rfl, by rw [e2, g2]; rfl, by show s2.data.toList.length ≤ _; omega⟩
    haveI : Inhabited Stp := ⟨(0, 0, [])⟩
    obtain ⟨R, hR⟩ := Deep.choose_lt hch
    have hrl : ((List.range len).map R).length = len := by simp
    refine ⟨(List.range len).map R, hrl, fun h0 => ?_, by rw [hrl]; exact hlen, fun m hm => ?_⟩
    · rw [hrl] at h0
      obtain ⟨b, off, spot⟩ := ad
      have cc := (hR 0 (by omega)).1
      have hspot : spot = none := by simpa [Addr.add] using World.cell?_spot cc
      subst hspot
      rw [add_plain] at cc
      refine ⟨b, off, rfl, (World.block_lt_of_cell? _ _ cc :), fun k r hk => ?_⟩
      have hkl : k < len := by have := (List.getElem?_eq_some_iff.1 hk).1; rw [hrl] at this; exact this
      rw [List.getElem?_map, List.getElem?_range hkl] at hk
      simp only [Option.map_some, Option.some.injEq] at hk
      subst hk
      obtain ⟨d0, d1, d2, _⟩ := hR k hkl
      rw [add_plain] at d0 d1 d2
      exact ⟨d0, by rw [← d1, Nat.add_assoc], by rw [← d2, Nat.add_assoc]⟩
    · obtain ⟨i, hi, rfl⟩ := List.mem_map.1 hm
      exact (hR i (List.mem_range.1 hi)).2.2.2
theorem blks_arg {f0 f1 f2 : Field} {fuel len cap : Nat} {a0 : Option Addr} {x : DataW H × List MemPlace} (he : Tryd.prog.underlying 33 = some (.struct #[f0, f1, f2]))
    (o0 : f0.offset = 0) (o1 : f1.offset = 1) (o2 : f2.offset = 2) (k0 : f0.type = 31) (k1 : f1.type = 9) (k2 : f2.type = 3)
    (h : DataW.trod enc Tryd.prog W 0 spare held fuel 22 (Value.slice a0 len cap).cells.toList = some x) (hb : Rows.uptoBulk x.1 ≤ 1048576) :
    ∃ L : List Bk, L.length = len ∧ LayB W a0 L ∧ L.length ≤ 1048576 ∧ ∀ y ∈ L, BkOk y := by
  rcases triples Tryd.underlying22 he (by kernel_rfl) o0 o1 o2 (by rw [k0]; kernel_rfl) (by rw [k1]; kernel_rfl) (by rw [k2]; kernel_rfl) h with hcs | ⟨ad, len', cap', n, D, sp, hcs, hl, hm, hx, hcell⟩
  · simp [Value.cells] at hcs
    obtain ⟨rfl, rfl, rfl⟩ := hcs
    exact ⟨[], rfl, Lay3.nil _ _, by simp, fun y hy => by cases hy⟩
  · simp [Value.cells] at hcs
    obtain ⟨rfl, rfl, rfl⟩ := hcs
    rw [hx] at hb
    simp only [Rows.uptoBulk] at hb
    have hlen : len ≤ 1048576 := by
      have := bulk_len ((List.range len).map D)
      rw [List.length_map, List.length_range] at this
      omega
    have hch : ∀ i, i < len → ∃ y : Bk, W.cell? (ad.add (i * 3)) = some (bW y) ∧ W.cell? (ad.add (i * 3 + 1)) = some (bS y) ∧ W.cell? (ad.add (i * 3 + 2)) = some (bN y) ∧ BkOk y := by
      intro i hi
      obtain ⟨v0, v1, v2, y0, y1, y2, e0, e1, e2, t0, t1, t2, hD⟩ := hcell i hi
      rw [k0] at t0
      rw [k1] at t1
      rw [k2] at t2
      obtain ⟨i0, g0, d0, w0⟩ := DataW.trod_int (by exact Tryd.underlying31) t0
      obtain ⟨s1, g1, d1, _⟩ := DataW.trod_string (by exact Tryd.underlying9) t1
      obtain ⟨i2, g2, d2, w2⟩ := DataW.trod_int (by exact Tryd.underlying3) t2
      simp only [List.cons.injEq, and_true] at g0 g1 g2
      have hm := bulk_mem (d := D i) (l := (List.range len).map D) (List.mem_map.2 ⟨i, List.mem_range.2 hi, rfl⟩)
      rw [hD, d1] at hm
      simp only [Rows.uptoBulk, Rows.uptoBulkAll] at hm
      have b2 := bounds_i64 w2
      have b0 : 0 ≤ i0 ∧ i0 < 4294967296 := by
        simp [Lit.wf, IntKind.min, IntKind.max, IntKind.bits, IntKind.signed] at w0
        omega
      obtain ⟨k, rfl⟩ : ∃ k : Nat, i0 = k := ⟨i0.toNat, by omega⟩
      exact ⟨⟨k, s1.data.toList, i2⟩, by rw [e0, g0]; rfl, by rw [e1, g1]; rfl, by rw [e2, g2]; rfl, by
        refine ⟨?_, ?_, b2.1, b2.2⟩
        · show k < _
          omega
        · show s1.data.toList.length ≤ _
          omega⟩
    haveI : Inhabited Bk := ⟨(0, [], 0)⟩
    obtain ⟨R, hR⟩ := Deep.choose_lt hch
    have hrl : ((List.range len).map R).length = len := by simp
    refine ⟨(List.range len).map R, hrl, fun h0 => ?_, by rw [hrl]; exact hlen, fun m hm => ?_⟩
    · rw [hrl] at h0
      obtain ⟨b, off, spot⟩ := ad
      have cc := (hR 0 (by omega)).1
      have hspot : spot = none := by simpa [Addr.add] using World.cell?_spot cc
      subst hspot
      rw [add_plain] at cc
      refine ⟨b, off, rfl, (World.block_lt_of_cell? _ _ cc :), fun k r hk => ?_⟩
      have hkl : k < len := by have := (List.getElem?_eq_some_iff.1 hk).1; rw [hrl] at this; exact this
      rw [List.getElem?_map, List.getElem?_range hkl] at hk
      simp only [Option.map_some, Option.some.injEq] at hk
      subst hk
      obtain ⟨d0, d1, d2, _⟩ := hR k hkl
      rw [add_plain] at d0 d1 d2
      exact ⟨d0, by rw [← d1, Nat.add_assoc], by rw [← d2, Nat.add_assoc]⟩
    · obtain ⟨i, hi, rfl⟩ := List.mem_map.1 hm
      exact (hR i (List.mem_range.1 hi)).2.2.2
end
end DM
end Go.Proofs.YtmpmmebmhffaeaaDoor
