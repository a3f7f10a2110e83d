/- Layer 12: the contract of atRoot. -/
import Derived.Test.YtmpmmebmhffaeaaGreatDoorQRcAt
set_option linter.all false
set_option maxRecDepth 100000
set_option maxHeartbeats 25600000
namespace Go.Proofs.YtmpmmebmhffaeaaGreatDoor
open Go.RowKit Go.Lib Go.Maps Go.BigFrame Go.Sort
namespace RC
open OM TP TM TR TG TW NP

theorem at_root {t : List Nd} (ht : Tree t) : atL t [] = valP t [] := by
  rw [valP_nil]
  unfold atL
  rw [if_pos ((tree_iff t).2 ht)]
  simp
/-- What At answers at the root. -/
def RootPost (t : List Nd) (w : World) (r : Ending) (w' : World) : Prop := ∃ ao c, r = .returned (.slice ao (valP t []).length c) ∧ LayN w' ao (valP t []) ∧ ((ao = none → c = 0) ∧ (valP t []).length ≤ c) ∧ (∀ g o, ao = some ⟨g, o, none⟩ → w.heap.size ≤ g) ∧ Below w.heap.size w w'
theorem root_any (ao : Option Addr) (cap : Nat) (t : List Nd) (w : World) (he : NF.Env w) (h : LayN w ao t) (ht : Tree t) (hcap : t.length ≤ cap) :
    Calls Tryz.prog 22 #[.slice ao t.length cap, .string ⟨#[]⟩] w (RootPost t w) := by
  refine (at_any ao cap t [] w he h (small_tree ht) (by have := ht.len; unfold maxLen; omega) hcap (by simp)).mono ?_
  rintro r w' ⟨v, rfl, ho, hb⟩
  rw [at_root ht] at ho
  obtain ⟨a2, c, rfl, hl⟩ := lay_own ho
  refine ⟨a2, c, rfl, hl, ⟨fun e => ?_, ?_⟩, fun g o e => ?_, hb⟩
  · subst e
    rcases ho.2 with ⟨e1, _⟩ | ⟨g, cap, cur, e1, _⟩
    · injection e1
    · cases e1
  · rcases ho.2 with ⟨e1, e2⟩ | ⟨g, cap, cur, e1, _, _, h3, _⟩
    · omega
    · injection e1 with _ _ e3
      omega
  · subst e
    rcases ho.2 with ⟨e1, _⟩ | ⟨g2, cap, cur, e1, h2, _⟩
    · cases e1
    · injection e1 with e1
      injection e1 with e1
      injection e1 with e1
      omega
set_option maxRecDepth 100000 in
set_option maxHeartbeats 6400000 in
theorem atRoot_any {xo ta tb : List Nd} (ho : Tree xo) (ha : Tree ta) (hb : Tree tb) (ao aa ab : Option Addr) (co ca cb : Nat) (w : World) (he : NF.Env w) (lo : LayN w ao xo) (la : LayN w aa ta) (lb : LayN w ab tb) (ko : xo.length ≤ co) (ka : ta.length ≤ ca) (kb : tb.length ≤ cb) :
    Calls Tryz.prog 14 #[.slice ao xo.length co, .slice aa ta.length ca, .slice ab tb.length cb] w fun r w' => ∃ b1 b2 b3 vo va vb, r = .returned (trV [] b1 b2 b3 vo va vb) ∧ TrAt w' [] (valP xo []) (valP ta []) (valP tb []) b1 b2 b3 vo va vb ∧ Below w.heap.size w w' := by
  have CO : Hid (∀ W, Below w.heap.size w W → Calls Tryz.prog 22 #[.slice ao xo.length co, .string ⟨#[]⟩] W (RootPost xo W)) := Lib.hid (fun W hW => root_any ao co xo W (he.below hW) (lo.below hW) ho ko)
  have CA : Hid (∀ W, Below w.heap.size w W → Calls Tryz.prog 22 #[.slice aa ta.length ca, .string ⟨#[]⟩] W (RootPost ta W)) := Lib.hid (fun W hW => root_any aa ca ta W (he.below hW) (la.below hW) ha ka)
  have CB : Hid (∀ W, Below w.heap.size w W → Calls Tryz.prog 22 #[.slice ab tb.length cb, .string ⟨#[]⟩] W (RootPost tb W)) := Lib.hid (fun W hW => root_any ab cb tb W (he.below hW) (lb.below hW) hb kb)
  have HE := Lib.hid he
  have IO := Lib.hid (val_in ho (.inl rfl : ([] : List UInt8) = [] ∨ _))
  have IA := Lib.hid (val_in ha (.inl rfl : ([] : List UInt8) = [] ∨ _))
  have IB := Lib.hid (val_in hb (.inl rfl : ([] : List UInt8) = [] ∨ _))
  obtain ⟨no, hno⟩ : ∃ n, xo.length = n := ⟨_, rfl⟩
  obtain ⟨na, hna⟩ : ∃ n, ta.length = n := ⟨_, rfl⟩
  obtain ⟨nb, hnb⟩ : ∃ n, tb.length = n := ⟨_, rfl⟩
  rw [hno] at CO ⊢
  rw [hna] at CA ⊢
  rw [hnb] at CB ⊢
  clear he lo la lb ko ka kb hno hna hnb
  go_enter Tryz.func14, Tryz.ntmps14
  repeat (first | go_skip | go_guarded | go_step | go_upon)
  obtain ⟨W0, hW0⟩ : ∃ W0, (w.alloc (.cells #[.map none, .map none, .map none, .string ⟨#[]⟩, .slice none 0 0, .slice none 0 0, .slice none 0 0] 49)) = W0 := ⟨_, rfl⟩
  have r0 : W0.heap[w.heap.size]? = some (.cells #[.map none, .map none, .map none, .string ⟨#[]⟩, .slice none 0 0, .slice none 0 0, .slice none 0 0] 49 (0, 0)) := by rw [← hW0]; exact heap_alloc_new _ _
  have B0 : Hid (Below w.heap.size w W0) := Lib.hid (by rw [← hW0]; exact (Below.refl _ _).alloc (Nat.le_refl _) _)
  have s0 : W0.heap.size = w.heap.size + 1 := by rw [← hW0]; simp
  rw [hW0]
  clear hW0
  refine (CO.out _ B0.out).mono ?_
  rintro r w1 ⟨y1, f1, rfl, m1, z1, k1', b1⟩
  simp only []
  have B1 := Lib.hid (Below.trans B0.out (b1.mono B0.out.size))
  have r1 := (b1.block w.heap.size (by omega)).trans r0
  have s1 := b1.size
  repeat (first | go_skip | go_guarded | go_step | go_upon)
  refine (CA.out _ B1.out).mono ?_
  rintro r w2 ⟨y2, f2, rfl, m2, z2, k2', b2⟩
  simp only []
  have B2 := Lib.hid (Below.trans B1.out (b2.mono B1.out.size))
  have r2 := (b2.block w.heap.size (by omega)).trans r1
  have s2 := b2.size
  have m12 := m1.below b2
  repeat (first | go_skip | go_guarded | go_step | go_upon)
  refine (CB.out _ B2.out).mono ?_
  rintro r w3 ⟨y3, f3, rfl, m3, z3, k3', b3⟩
  simp only []
  have B3 := Lib.hid (Below.trans B2.out (b3.mono B2.out.size))
  have r3 := (b3.block w.heap.size (by omega)).trans r2
  have s3 := b3.size
  have L1 := Lib.hid (m12.below b3)
  have L2 := Lib.hid (m2.below b3)
  have L3 := Lib.hid m3
  have CS := Lib.hid (standing_any [] y1 y2 y3 f1 f2 f3 _ _ _ w3 (HE.out.below B3.out) L1.out L2.out L3.out IO.out IA.out IB.out z1 z2 z3)
  clear r0 r1 r2 m1 m2 m3 m12 b1 b2 b3
  repeat (first | go_skip | go_guarded | go_step | go_upon)
  refine CS.out.mono ?_
  rintro r w4 ⟨q1, q2, q3, rfl, ht, hb4, hq1, hq2, hq3⟩
  simp only []
  have B4 := Lib.hid (Below.trans B3.out (hb4.mono B3.out.size))
  have r4 := (hb4.block w.heap.size (by omega)).trans r3
  have R4 := Lib.hid r4
  obtain ⟨d0, d1, d2, d3, d4, d5, d6, df⟩ := row7 r4
  obtain ⟨⟨k1, E1, j1, h1⟩, ⟨k2, E2, j2, h2⟩, ⟨k3, E3, j3, h3⟩, -, -, -⟩ := ht
  have H1 := Lib.hid h1
  have H2 := Lib.hid h2
  have H3 := Lib.hid h3
  have HB4 := Lib.hid hb4
  obtain ⟨so, hso⟩ : ∃ n, (valP xo []).length = n := ⟨_, rfl⟩
  obtain ⟨sa, hsa⟩ : ∃ n, (valP ta []).length = n := ⟨_, rfl⟩
  obtain ⟨sb, hsb⟩ : ∃ n, (valP tb []).length = n := ⟨_, rfl⟩
  rw [hso, hsa, hsb]
  unfold trV
  rw [show txt [] = .string ⟨#[]⟩ from rfl]
  clear h1 h2 h3 CS r3 r4 hb4
  repeat (first | go_skip | go_guarded | go_step | go_upon)
  have gz := grown7 w4 w.heap.size (.map (some q1)) (.map (some q2)) (.map (some q3)) (.string ⟨#[]⟩) (.slice y1 so f1) (.slice y2 sa f2) (.slice y3 sb f3)
  have rz := set7 w4 w.heap.size (.map (some q1)) (.map (some q2)) (.map (some q3)) (.string ⟨#[]⟩) (.slice y1 so f1) (.slice y2 sa f2) (.slice y3 sb f3) R4.out
  have bz := Below.trans B4.out (below_of_grown gz (Nat.le_refl _) B4.out.size)
  have b3z : Below w.heap.size w4 _ := below_of_grown gz (Nat.le_refl _) B4.out.size
  have lay : ∀ {y : Option Addr} {ts : List Nd}, LayN w3 y ts → (∀ g o, y = some ⟨g, o, none⟩ → g ≠ w.heap.size) → LayN _ y ts := fun {y ts} hl hne h0 => by
    obtain ⟨g, o, e, hg, hc⟩ := hl h0
    refine ⟨g, o, e, Nat.lt_of_lt_of_le hg (Nat.le_trans HB4.out.size gz.size), fun k n hk => ?_⟩
    have h5 := (hc k n hk).below hg HB4.out
    have hcell : ∀ j, World.cell? _ ⟨g, j, none⟩ = w4.cell? ⟨g, j, none⟩ := fun j => World.cell?_of_block (gz.block g (Nat.lt_of_lt_of_le hg HB4.out.size) (fun e2 => hne g o e (by injection e2)))
    exact ⟨(hcell _).trans h5.p, (hcell _).trans h5.k, (hcell _).trans h5.d, (hcell _).trans h5.m⟩
  refine bodyPost_ret (v := trV [] q1 q2 q3 (.slice y1 so f1) (.slice y2 sa f2) (.slice y3 sb f3)) ?_ rfl ⟨q1, q2, q3, _, _, _, rfl, ⟨⟨_, _, j1, H1.out.beside gz (by omega)⟩, ⟨_, _, j2, H2.out.beside gz (by omega)⟩, ⟨_, _, j3, H3.out.beside gz (by omega)⟩, ⟨y1, f1, by rw [hso], lay L1.out (fun g o e e2 => by have := k1' g o e; omega), z1⟩, ⟨y2, f2, by rw [hsa], lay L2.out (fun g o e e2 => by have := k2' g o e; omega), z2⟩, ⟨y3, f3, by rw [hsb], lay L3.out (fun g o e e2 => by have := k3' g o e; omega), z3⟩⟩, bz⟩
  unfold trV
  rw [show txt [] = .string ⟨#[]⟩ from rfl]
  exact results_cell_row rfl _ _ w.heap.size 49 _ (0, 0) _ rfl rz Tryz.underlying49 rfl (by kernel_rfl)
end RC
end Go.Proofs.YtmpmmebmhffaeaaGreatDoor
