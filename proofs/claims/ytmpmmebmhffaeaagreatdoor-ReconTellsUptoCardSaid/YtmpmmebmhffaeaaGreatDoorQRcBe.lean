/- Layer 12: the contract of below. -/
import Derived.Test.YtmpmmebmhffaeaaGreatDoorQRcIt
import Derived.Test.YtmpmmebmhffaeaaGreatDoorQRcVal
set_option linter.all false
set_option maxRecDepth 100000
set_option maxHeartbeats 25600000
namespace Go.Proofs.YtmpmmebmhffaeaaGreatDoor
open Go.RowKit Go.Lib Go.Maps Go.BigFrame
namespace RC
open OM TP TM TR TG

theorem Grp.found {W : World} {base b n : Nat} {D : DataW Value} {G : List UInt8 → List Nd} (h : Grp W base b n D G) {k : List UInt8} {v : Value} (hv : D.atKey (.string k) (.held nilS) = .held v) : ∃ ao c, v = .slice ao (G k).length c ∧ LayN W ao (G k) ∧ (ao = none → c = 0) ∧ (G k).length ≤ c := by
  have ho := h.own k v hv
  obtain ⟨ao, c, rfl, hl⟩ := lay_own ho
  refine ⟨ao, c, rfl, hl, fun e => ?_, ?_⟩
  · subst e
    rcases ho.2 with ⟨e1, _⟩ | ⟨g, cap, cur, e1, _⟩
    · injection e1
    · cases e1
  · rcases ho.2 with ⟨e1, e2⟩ | ⟨g, cap, cur, e1, _, _, h3, _⟩
    · omega
    · injection e1 with _ _ e3
      omega
set_option maxRecDepth 100000 in
set_option maxHeartbeats 6400000 in
theorem below_any (p k : List UInt8) (o a b : List Nd) (b1 b2 b3 : Nat) (vo va vb : Value) (w : World) (he : NF.Env w) (h : TrAt w p o a b b1 b2 b3 vo va vb) (hp : p.length ≤ 1048576) (hk : k.length ≤ 1048576) (io : InV (subL o k)) (ia : InV (subL a k)) (ib : InV (subL b k)) :
    Calls Tryz.prog 27 #[trV p b1 b2 b3 vo va vb, txt k] w fun r w' => ∃ c1 c2 c3 uo ua ub, r = .returned (trV (belowP p k) c1 c2 c3 uo ua ub) ∧ TrAt w' (belowP p k) (subL o k) (subL a k) (subL b k) c1 c2 c3 uo ua ub ∧ Below w.heap.size w w' := by
  obtain ⟨⟨n1, D1, -, g1⟩, ⟨n2, D2, -, g2⟩, ⟨n3, D3, -, g3⟩, ⟨x1, e1, rfl, l1, -⟩, ⟨x2, e2, rfl, l2, -⟩, ⟨x3, e3, rfl, l3, -⟩⟩ := h
  unfold trV
  obtain ⟨S, hS, hSd⟩ := txt_of p
  obtain ⟨K, hK, hKd⟩ := txt_of k
  obtain ⟨T, hT, hTd⟩ := txt_of (belowP p k)
  rw [hS, hK]
  have hks := keyS K (by rw [Lib.size_eq, hKd]; unfold maxLen; omega)
  rw [hKd] at hks
  have HKS := Lib.hid hks
  have HE := Lib.hid he
  have G1 := Lib.hid g1
  have G2 := Lib.hid g2
  have G3 := Lib.hid g3
  have IO := Lib.hid io
  have IA := Lib.hid ia
  have IB := Lib.hid ib
  have hSs : S.size ≤ 1048576 := by rw [Lib.size_eq, hSd]; omega
  have hKs : K.size ≤ 1048576 := by rw [Lib.size_eq, hKd]; omega
  have CT := Lib.hid (trim_txt (S ++ ⟨#[47]⟩ ++ K) ⟨#[47]⟩ T (p ++ 47 :: k) [47] (by simp [hSd, hKd]) rfl hTd)
  obtain ⟨no, hno⟩ : ∃ n, o.length = n := ⟨_, rfl⟩
  obtain ⟨na, hna⟩ : ∃ n, a.length = n := ⟨_, rfl⟩
  obtain ⟨nb, hnb⟩ : ∃ n, b.length = n := ⟨_, rfl⟩
  rw [hno, hna, hnb]
  clear g1 g2 g3 l1 l2 l3 io ia ib he hS hSd hK hKd hno hna hnb hks
  go_enter Tryz.func27, Tryz.ntmps27
  repeat (first | go_skip | go_guarded | go_step | go_upon)
  obtain ⟨W2, hW2⟩ : ∃ W2, ((w.alloc (.cells #[.map (some b1), .map (some b2), .map (some b3), .string S, .slice x1 no e1, .slice x2 na e2, .slice x3 nb e3] 49)).alloc (.cells #[.map none, .map none, .map none, .string ⟨#[]⟩, .slice none 0 0, .slice none 0 0, .slice none 0 0] 49)) = W2 := ⟨_, rfl⟩
  have r1 : W2.heap[w.heap.size]? = some (.cells #[.map (some b1), .map (some b2), .map (some b3), .string S, .slice x1 no e1, .slice x2 na e2, .slice x3 nb e3] 49 (0, 0)) := by
    rw [← hW2]
    exact (heap_alloc_old _ _ (by simp)).trans (heap_alloc_new _ _)
  have r2 : W2.heap[w.heap.size + 1]? = some (.cells #[.map none, .map none, .map none, .string ⟨#[]⟩, .slice none 0 0, .slice none 0 0, .slice none 0 0] 49 (0, 0)) := by
    rw [← hW2]
    exact heap_alloc2_new _ _ _
  have B2 : Hid (Below w.heap.size w W2) := Lib.hid (by rw [← hW2]; exact ((Below.refl _ _).alloc (Nat.le_refl _) _).alloc (by simp) _)
  have s2 : W2.heap.size = w.heap.size + 2 := by rw [← hW2]; simp
  have M1 := Lib.hid (G1.out.below B2.out)
  have M2 := Lib.hid (G2.out.below B2.out)
  have M3 := Lib.hid (G3.out.below B2.out)
  rw [hW2]
  clear hW2
  have R2 := Lib.hid r2
  obtain ⟨c0, c1, c2, c3, c4, c5, c6, cf⟩ := row7 r1
  clear r1 r2
  refine (CT.out _).mono ?_
  rintro r w2 ⟨rfl, rfl⟩
  simp only []
  repeat (first
    | (at_lookup; refine wpList_lookup_held _ rfl _ _ _ rfl _ _ lawS Tryz.underlying45 nilS (nodesZero _) b1 n1 D1 rfl M1.out.map (.string K) (.string k) rfl HKS.out ?_; intro v1 hv1; have V1 := Lib.hid hv1; clear hv1)
    | (at_lookup; refine wpList_lookup_held _ rfl _ _ _ rfl _ _ lawS Tryz.underlying45 nilS (nodesZero _) b2 n2 D2 rfl M2.out.map (.string K) (.string k) rfl HKS.out ?_; intro v2 hv2; have V2 := Lib.hid hv2; clear hv2)
    | (at_lookup; refine wpList_lookup_held _ rfl _ _ _ rfl _ _ lawS Tryz.underlying45 nilS (nodesZero _) b3 n3 D3 rfl M3.out.map (.string K) (.string k) rfl HKS.out ?_; intro v3 hv3; have V3 := Lib.hid hv3; clear hv3)
    | go_skip | go_guarded | go_step | go_upon)
  obtain ⟨y1, f1, rfl, m1, z1⟩ := G1.out.found V1.out
  obtain ⟨y2, f2, rfl, m2, z2⟩ := G2.out.found V2.out
  obtain ⟨y3, f3, rfl, m3, z3⟩ := G3.out.found V3.out
  have CS := standing_any (belowP p k) y1 y2 y3 f1 f2 f3 (subL o k) (subL a k) (subL b k) w2 (HE.out.below B2.out) (m1.below B2.out) (m2.below B2.out) (m3.below B2.out) IO.out IA.out IB.out z1 z2 z3
  rw [hT] at CS
  refine CS.mono ?_
  rintro r w3 ⟨q1, q2, q3, rfl, ht, hb, hq1, hq2, hq3⟩
  simp only []
  have B3 := Lib.hid (Below.trans B2.out (hb.mono B2.out.size))
  have r3 := (hb.block (w.heap.size + 1) (by omega)).trans R2.out
  have R3 := Lib.hid r3
  obtain ⟨d0, d1, d2, d3, d4, d5, d6, df⟩ := row7 r3
  obtain ⟨⟨k1, E1, j1, h1⟩, ⟨k2, E2, j2, h2⟩, ⟨k3, E3, j3, h3⟩, -, -, -⟩ := ht
  have H1 := Lib.hid h1
  have H2 := Lib.hid h2
  have H3 := Lib.hid h3
  have L1 := Lib.hid m1
  have L2 := Lib.hid m2
  have L3 := Lib.hid m3
  clear h1 h2 h3 m1 m2 m3 CS r3 hb
  unfold trV
  rw [hT]
  obtain ⟨so, hso⟩ : ∃ n, (subL o k).length = n := ⟨_, rfl⟩
  obtain ⟨sa, hsa⟩ : ∃ n, (subL a k).length = n := ⟨_, rfl⟩
  obtain ⟨sb, hsb⟩ : ∃ n, (subL b k).length = n := ⟨_, rfl⟩
  rw [hso, hsa, hsb]
  repeat (first | go_skip | go_guarded | go_step | go_upon)
  have gz := grown7 w3 (w.heap.size + 1) (.map (some q1)) (.map (some q2)) (.map (some q3)) (.string T) (.slice y1 so f1) (.slice y2 sa f2) (.slice y3 sb f3)
  have rz := set7 w3 (w.heap.size + 1) (.map (some q1)) (.map (some q2)) (.map (some q3)) (.string T) (.slice y1 so f1) (.slice y2 sa f2) (.slice y3 sb f3) R3.out
  have bz := Below.trans B3.out (below_of_grown gz (by omega) B3.out.size)
  refine bodyPost_ret (v := trV (belowP p k) q1 q2 q3 (.slice y1 so f1) (.slice y2 sa f2) (.slice y3 sb f3)) ?_ rfl ⟨q1, q2, q3, _, _, _, rfl, ⟨⟨_, _, j1, H1.out.beside gz (by omega)⟩, ⟨_, _, j2, H2.out.beside gz (by omega)⟩, ⟨_, _, j3, H3.out.beside gz (by omega)⟩, ⟨y1, f1, by rw [hso], L1.out.below bz, z1⟩, ⟨y2, f2, by rw [hsa], L2.out.below bz, z2⟩, ⟨y3, f3, by rw [hsb], L3.out.below bz, z3⟩⟩, bz⟩
  unfold trV
  rw [hT]
  exact results_cell_row rfl _ _ (w.heap.size + 1) 49 _ (0, 0) _ rfl rz Tryz.underlying49 rfl (by kernel_rfl)
end RC
end Go.Proofs.YtmpmmebmhffaeaaGreatDoor
