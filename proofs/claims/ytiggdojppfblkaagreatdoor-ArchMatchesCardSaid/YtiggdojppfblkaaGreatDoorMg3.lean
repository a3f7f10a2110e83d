/- Texts of this seat, put one behind the other: what all of its statements on a disk share (part 3). -/
import Derived.Test.YtiggdojppfblkaaGreatDoorMg1
import Derived.Test.YtiggdojppfblkaaGreatDoorMg2
import Derived.Deep.RegionWith
import Derived.Lib.QuietBelow
import Derived.RegionTactic
import Derived.Test.YtiggdojppfblkaaGreatDoorChecked
import Derived.WalkKit
import Derived.WalkMore
import Derived.IntWalk
import Derived.Below
import Derived.OwnWalk
import Derived.Lib.Hide
import Derived.Lib.IndexBytes
import Derived.Laws.IdiomStrings
import Derived.Laws.BytesArg
import Derived.BigRegion
import Derived.BigQuiet
import Derived.Laws.BitsAllLaws
import Derived.Laws.ShiftsVar
import Derived.Laws.ShiftsVarLaws
import Derived.Lib.SmallJoins
import Derived.SliceStrings
section
/- Layer 9: the contract of the writer's archive. -/
namespace Go.Proofs.YtiggdojppfblkaaGreatDoor
open Go.RowKit Go.Lib Go.BigFrame
namespace AW
open CP CR AP GB TP TM AR

def arV (a : Ar) (ao : Option Addr) (ca : Nat) (so : Option Addr) (sc : Nat) : Value := .agg #[txt a.pair, .int .i64 a.serial, .slice ao a.tree.length ca, .slice so a.stamps.length sc]
theorem nodesS_snoc : ∀ (k : Nat) (t : List Nd) (u : List Sm) (n : Nd) (s : Sm), t[k]? = some n → u[k]? = some s → nodesS (t.take (k + 1)) (u.take (k + 1)) = nodesS (t.take k) (u.take k) ++ nodeS n s
  | _, [], _, _, _, h, _ => by simp at h
  | _, _ :: _, [], _, _, _, h => by simp at h
  | 0, a :: t, b :: u, n, s, h, h' => by
    simp at h h'
    subst h
    subst h'
    simp [nodesS]
  | k + 1, a :: t, b :: u, n, s, h, h' => by
    have ih := nodesS_snoc k t u n s (by simpa using h) (by simpa using h')
    rw [List.take_succ_cons, List.take_succ_cons, List.take_succ_cons, List.take_succ_cons, nodesS, ih, nodesS, List.append_assoc]
/-- What stands ahead of the nodes. -/
def headS (a : Ar) : List UInt8 := textS ver ++ (textS a.pair ++ (numS a.serial ++ nm a.tree.length))
theorem pay_head (a : Ar) : payL a = headS a ++ nodesS a.tree a.stamps := by unfold payL headS; simp only [List.append_assoc]
structure AOk (B b bx : Nat) (cs : Array Value) (w1 : World) (l : List UInt8) (wr : World) : Prop where
  has : Has B b l wr
  below : Below B w1 wr
  kept : OthersKept 5 (some b) w1 wr
  row : wr.heap[bx]? = some (.cells cs 35 (0, 0))
def AInv (B b bx : Nat) (cs : Array Value) (w1 : World) (a : Ar) (s : Value) (wr : World) : Prop :=
  ∃ k : Nat, s = .int .i64 k ∧ k ≤ a.tree.length ∧ AOk B b bx cs w1 (headS a ++ nodesS (a.tree.take k) (a.stamps.take k)) wr
theorem AOk.wrote {B b bx : Nat} {cs : Array Value} {w1 : World} {l l' : List UInt8} {wr w' : World} (h : AOk B b bx cs w1 l wr) (hbx : bx ≠ b) (k : Wrote B b l' wr w') : AOk B b bx cs w1 l' w' :=
  ⟨k.has, h.below.trans k.below, h.kept.trans k.kept, kept_row k.kept h.row (by decide) hbx⟩
theorem AOk.thenBelow {B b bx : Nat} {cs : Array Value} {w1 : World} {l : List UInt8} {wr w' : World} (h : AOk B b bx cs w1 l wr) (hB : B ≤ wr.heap.size) (k : Below wr.heap.size wr w') : AOk B b bx cs w1 l w' :=
  ⟨Is.below h.has k, h.below.trans (k.mono hB), h.kept.trans (kept_below k), (k.block _ (Array.getElem?_eq_some_iff.1 h.row).1).trans h.row⟩
theorem row_cell {W : World} {g : Nat} {cs : Array Value} {t : TypeId} (h : W.heap[g]? = some (.cells cs t (0, 0))) (j : Nat) : W.cell? ⟨g, j, none⟩ = cs[j]? := cell_of_row W g j _ _ _ h
theorem one_cs (t : List UInt8) : ∀ (j : Nat) x, [t][j]? = some x → (#[Value.string ⟨t.toArray⟩] : Array Value)[j]? = some (.string ⟨x.toArray⟩)
  | 0, x, h => by simp at h; subst h; rfl
  | j + 1, x, h => by simp at h
theorem two_cs (t u : List UInt8) : ∀ (j : Nat) x, [t, u][j]? = some x → (#[Value.string ⟨t.toArray⟩, Value.string ⟨u.toArray⟩] : Array Value)[j]? = some (.string ⟨x.toArray⟩)
  | 0, x, h => by simp at h; subst h; rfl
  | 1, x, h => by simp at h; subst h; rfl
  | j + 2, x, h => by simp at h
theorem two_ns (t u : Int) : ∀ (j : Nat) x, [t, u][j]? = some x → (#[Value.int .i64 t, Value.int .i64 u] : Array Value)[j]? = some (.int .i64 x)
  | 0, x, h => by simp at h; subst h; rfl
  | 1, x, h => by simp at h; subst h; rfl
  | j + 2, x, h => by simp at h
theorem three_ns (t u v : Int) : ∀ (j : Nat) x, [t, u, v][j]? = some x → (#[Value.int .i64 t, Value.int .i64 u, Value.int .i64 v] : Array Value)[j]? = some (.int .i64 x)
  | 0, x, h => by simp at h; subst h; rfl
  | 1, x, h => by simp at h; subst h; rfl
  | 2, x, h => by simp at h; subst h; rfl
  | j + 3, x, h => by simp at h
theorem nodes_cut {a : Ar} (h : RightA a) (hf : FitA a) (k : Nat) : (headS a ++ nodesS (a.tree.take k) (a.stamps.take k)).length ≤ 1000000 := by
  have hok : ∀ n ∈ a.tree.take k, ∀ s ∈ a.stamps.take k, NodeOk n s := fun n hn s hs => node_ok h hf (List.mem_of_mem_take hn) (List.mem_of_mem_take hs)
  have hlen := nodesS_len (a.tree.take k) (a.stamps.take k) (by rw [List.length_take, List.length_take, h.len]) hok
  have htl := h.tree.len
  have hser := h.serial
  have hfs := hf.serial
  unfold Fits at hfs
  have hpl := h.pairL
  have x6 : (a.tree.take k).length ≤ 1000 := by rw [List.length_take]; omega
  unfold headS textS
  rw [numS_nat hser]
  simp only [List.length_append]
  have x1 := nm_len2 (n := ver.length) (by decide)
  have x2 := nm_len2 (n := a.pair.length) (by omega)
  have x3 := nm_len9 (n := a.serial.toNat) (by omega)
  have x4 := nm_len2 (n := a.tree.length) (by omega)
  have x5 : ver.length = 8 := rfl
  omega
set_option maxRecDepth 100000 in
set_option maxHeartbeats 6400000 in
theorem archive_any (W0 : World) (b : Nat) (a : Ar) (ao : Option Addr) (ca : Nat) (so : Option Addr) (sc : Nat) (w : World) (hr : RightA a) (hf : FitA a) (lt : LayN W0 ao a.tree) (lm : LayM W0 so a.stamps) (hb : Below W0.heap.size W0 w) (h : Has W0.heap.size b [] w) :
    Calls Tryz.prog 35 #[.pointer (some ⟨b, 0, none⟩), arV a ao ca so sc] w (WPost W0.heap.size b (payL a) w) := by
  obtain ⟨B, hB⟩ : ∃ B, W0.heap.size = B := ⟨_, rfl⟩
  have HB0 := Lib.hid hB
  have hBw : B ≤ w.heap.size := by rw [← hB]; exact hb.size
  rw [hB] at h
  have HR := Lib.hid hr
  have HF := Lib.hid hf
  have HLT := Lib.hid lt
  have HLM := Lib.hid lm
  have HBW := Lib.hid hb
  have HCut := Lib.hid (fun k => nodes_cut hr hf k)
  have hpl := hr.pairL
  have hser := hr.serial
  have hfs := hf.serial
  unfold Fits at hfs
  have hn := hr.tree.len
  have hl := hr.len
  obtain ⟨cs, hcs⟩ : ∃ cs : Array Value, #[txt a.pair, .int .i64 a.serial, .slice ao a.tree.length ca, .slice so a.stamps.length sc] = cs := ⟨_, rfl⟩
  have HCS := Lib.hid hcs
  obtain ⟨w1, hw1⟩ : ∃ w1, w.alloc (.cells cs 35) = w1 := ⟨_, rfl⟩
  have b1 : Below w.heap.size w w1 := by rw [← hw1]; exact (Below.refl _ _).alloc (Nat.le_refl _) _
  have r1 : w1.heap[w.heap.size]? = some (.cells cs 35 (0, 0)) := by rw [← hw1]; exact heap_alloc_new w _
  have h1 : Has B b [] w1 := Is.below h b1
  have hxb : w.heap.size ≠ b := fun e => by have := Is.lt h; omega
  have HXB := Lib.hid hxb
  have A1 : Hid (AOk B b w.heap.size cs w1 [] w1) := Lib.hid ⟨h1, Below.refl _ _, OthersKept.refl _ _ _, r1⟩
  have B1 := Lib.hid b1
  have hB1 : B ≤ w1.heap.size := Nat.le_trans hBw b1.size
  have t0 : w1.cell? ⟨w.heap.size, 0, none⟩ = some (txt a.pair) := by rw [row_cell r1, ← hcs]; rfl
  obtain ⟨P, hP⟩ : ∃ P : ByteArray, ⟨a.pair.toArray⟩ = P := ⟨_, rfl⟩
  have HP := Lib.hid hP
  unfold txt at t0
  rw [hP] at t0
  have hgoal : Calls Tryz.prog 35 #[.pointer (some ⟨b, 0, none⟩), .agg cs] w (WPost B b (payL a) w) := by
    clear hb h h1 r1 b1 hxb hcs lt lm hr hf hP
    go_enter Tryz.func35, Tryz.ntmps35
    repeat (first | (go_at_call 67; fail) | go_skip | go_guarded | go_step | go_upon)
    refine (texts_any B b w1.heap.size 2 [] [ver, a.pair] _ (0, 0) _ (Is.below A1.out.has ((Below.refl _ _).alloc (Nat.le_refl _) _)) (by simp; omega) (heap_alloc_new _ _) (by rw [← HP.out]; exact two_cs ver a.pair) (by simp) (by intro t ht; simp at ht; rcases ht with rfl | rfl; exact (by decide); omega) (by decide)).mono ?_
    rintro r W2 ⟨rfl, hw2⟩
    simp only []
    have A2 := Lib.hid ((A1.out.thenBelow hB1 ((Below.refl _ _).alloc (Nat.le_refl _) _)).wrote HXB.out hw2)
    have hB2 : B ≤ W2.heap.size := Nat.le_trans hB1 A2.out.below.size
    clear hw2 t0
    obtain ⟨s1, s2⟩ : W2.cell? ⟨w.heap.size, 1, none⟩ = some (.int .i64 a.serial) ∧ W2.cell? ⟨w.heap.size, 2, none⟩ = some (.slice ao a.tree.length ca) := by
      constructor <;> (rw [row_cell A2.out.row, ← HCS.out]; rfl)
    repeat (first | (go_at_call 68; fail) | go_skip | go_guarded | go_step | go_upon)
    refine (numbers_any B b W2.heap.size 2 _ [a.serial, (a.tree.length : Int)] _ (0, 0) _ (Is.below A2.out.has ((Below.refl _ _).alloc (Nat.le_refl _) _)) (by simp; omega) (heap_alloc_new _ _) (two_ns a.serial (a.tree.length : Int)) (by simp) (by intro t ht; simp at ht; rcases ht with rfl | rfl <;> constructor <;> omega) (by have := HCut.out 0; unfold headS at this; simp at this ⊢; omega)).mono ?_
    rintro r W3 ⟨rfl, hw3⟩
    simp only []
    have A3 := Lib.hid ((A2.out.thenBelow hB2 ((Below.refl _ _).alloc (Nat.le_refl _) _)).wrote HXB.out hw3)
    have hB3 : B ≤ W3.heap.size := Nat.le_trans hB1 A3.out.below.size
    clear hw3 s1 s2
    have s3 : W3.cell? ⟨w.heap.size, 2, none⟩ = some (.slice ao a.tree.length ca) := by rw [row_cell A3.out.row, ← HCS.out]; rfl
    have HI : Hid (AInv B b w.heap.size cs w1 a (.int .i64 0) W3) := Lib.hid ⟨0, rfl, Nat.zero_le _, by
      have e : headS a ++ nodesS (a.tree.take 0) (a.stamps.take 0) = [] ++ [ver, a.pair].flatMap textS ++ [a.serial, (a.tree.length : Int)].flatMap numS := by
        unfold headS
        have : numS (a.tree.length : Int) = nm a.tree.length := by rw [numS_nat (by omega)]; simp
        simp [nodesS, this]
      rw [e]
      exact A3.out⟩
    obtain ⟨n, hnn⟩ : ∃ n, a.tree.length = n := ⟨_, rfl⟩
    have HN := Lib.hid hnn
    rw [hnn] at s3 hn
    have hnz : (n : Int) ≤ 1000 := by omega
    clear hnn
    repeat (first | go_skip | go_guarded | go_step | go_upon)
    go_loopw [23] (fun s23 wr => AInv B b w.heap.size cs w1 a s23 wr) (fun s23 _ => n - (Go.RowKit.intOf s23).toNat)
    case atStart => exact HI.out
    case round =>
      obtain ⟨k, rfl, hk, hw⟩ := hrel
      have HW := Lib.hid hw
      rw [HN.out] at hk
      have hBr : B ≤ wr.heap.size := Nat.le_trans hB1 hw.below.size
      clear hw s3
      by_cases hlt : k < n
      · have hkz : (k : Int) < n := by omega
        obtain ⟨x, hx⟩ : ∃ x, a.tree[k]? = some x := ⟨a.tree[k]'(by rw [HN.out]; exact hlt), List.getElem?_eq_getElem _⟩
        obtain ⟨y, hy⟩ : ∃ y, a.stamps[k]? = some y := ⟨a.stamps[k]'(by rw [HR.out.len, HN.out]; exact hlt), List.getElem?_eq_getElem _⟩
        have hok := node_ok HR.out HF.out (List.mem_of_getElem? hx) (List.mem_of_getElem? hy)
        have HOk := Lib.hid hok
        have HSn := Lib.hid (nodesS_snoc k _ _ _ _ hx hy)
        have HY := Lib.hid hy
        have b0r : Below W0.heap.size W0 wr := by
          have e1 := HBW.out
          have e2 := B1.out
          have e3 := HW.out.below
          rw [HB0.out] at e1 ⊢
          exact (e1.trans (e2.mono hBw)).trans e3
        obtain ⟨g, o, rfl, hg, hcell⟩ := (HLT.out.below b0r) (by rw [HN.out]; omega)
        obtain ⟨c0, c1, c2, c3⟩ := hcell k x hx
        obtain ⟨g', o', rfl, hg', hcell'⟩ := (HLM.out.below b0r) (by rw [HR.out.len, HN.out]; omega)
        have hsm := hcell' k y hy
        have HSm := Lib.hid hsm
        have HB0r := Lib.hid b0r
        unfold txt at c0 c2
        obtain ⟨X, hX⟩ : ∃ X : ByteArray, ⟨x.path.toArray⟩ = X := ⟨_, rfl⟩
        obtain ⟨D, hD⟩ : ∃ D : ByteArray, ⟨x.data.toArray⟩ = D := ⟨_, rfl⟩
        have HX := Lib.hid hX
        have HD := Lib.hid hD
        rw [hX] at c0
        rw [hD] at c2
        obtain ⟨wa, hwa⟩ : ∃ wa, wr.alloc (.cells #[.string X, .int .i64 x.kind, .string D, .int .i64 x.mode] 25) = wa := ⟨_, rfl⟩
        have bwa : Below wr.heap.size wr wa := by rw [← hwa]; exact (Below.refl _ _).alloc (Nat.le_refl _) _
        have rwa : wa.heap[wr.heap.size]? = some (.cells #[.string X, .int .i64 x.kind, .string D, .int .i64 x.mode] 25 (0, 0)) := by rw [← hwa]; exact heap_alloc_new wr _
        have A5 := Lib.hid (HW.out.thenBelow hBr bwa)
        have hBa : B ≤ wa.heap.size := Nat.le_trans hBr bwa.size
        have hxa : wr.heap.size ≠ b := fun e => by have := Is.lt HW.out.has; omega
        have HXA := Lib.hid hxa
        have HRW := Lib.hid rwa
        have d0 : wa.cell? ⟨wr.heap.size, 0, none⟩ = some (.string X) := by rw [row_cell rwa]; rfl
        have hwa9 : wa.heap.size ≤ wa.heap.size := Nat.le_refl _
        clear hcell hcell' hx hy hX hD hok b0r hsm hxa rwa hwa9
        have hwa0 : wa.heap.size ≤ wa.heap.size := Nat.le_refl _
        repeat (first | (go_at_call 67; fail) | go_skip | go_guarded | go_step | go_upon)
        refine (texts_any B b wa.heap.size 1 _ [x.path] _ (0, 0) _ (Is.below A5.out.has ((Below.refl _ _).alloc (Nat.le_refl _) _)) (by simp; omega) (heap_alloc_new _ _) (by rw [← HX.out]; exact one_cs x.path) (by simp) (by intro t ht; simp at ht; rw [ht]; have := HOk.out.pathL; omega) (by have h1 := HCut.out k; have h2 := (nodeS_len HOk.out).2; unfold nodeS at h2; simp only [List.length_append, List.flatMap_cons, List.flatMap_nil, List.length_nil] at h1 h2 ⊢; omega)).mono ?_
        rintro r W6 ⟨rfl, hw9⟩
        simp only []
        have A6 := Lib.hid ((A5.out.thenBelow (Nat.le_trans hBa hwa0) ((Below.refl _ _).alloc (Nat.le_refl _) _)).wrote HXB.out hw9)
        have hW6 : wa.heap.size ≤ W6.heap.size := by have h1 := hw9.below.size; simp at h1; omega
        have HR6 := Lib.hid (kept_row hw9.kept ((Below.heap_alloc wa _ _ (Array.getElem?_eq_some_iff.1 HRW.out).1).trans HRW.out) (by decide) HXA.out)
        clear hw9
        obtain ⟨e1, e3⟩ : W6.cell? ⟨wr.heap.size, 1, none⟩ = some (.int .i64 x.kind) ∧ W6.cell? ⟨wr.heap.size, 3, none⟩ = some (.int .i64 x.mode) := by
          constructor <;> (rw [row_cell HR6.out]; rfl)
        clear d0
        repeat (first | (go_at_call 68; fail) | go_skip | go_guarded | go_step | go_upon)
        refine (numbers_any B b W6.heap.size 2 _ [x.kind, x.mode] _ (0, 0) _ (Is.below A6.out.has ((Below.refl _ _).alloc (Nat.le_refl _) _)) (by simp; omega) (heap_alloc_new _ _) (two_ns x.kind x.mode) (by simp) (by intro t ht; have := HOk.out.k0; have := HOk.out.k1; have := HOk.out.m0; have := HOk.out.m1; simp at ht; rcases ht with rfl | rfl <;> constructor <;> omega) (by have h1 := HCut.out k; have h2 := (nodeS_len HOk.out).2; unfold nodeS at h2; simp only [List.length_append, List.flatMap_cons, List.flatMap_nil, List.length_nil] at h1 h2 ⊢; omega)).mono ?_
        rintro r W7 ⟨rfl, hw9⟩
        simp only []
        have A7 := Lib.hid ((A6.out.thenBelow (Nat.le_trans hBa hW6) ((Below.refl _ _).alloc (Nat.le_refl _) _)).wrote HXB.out hw9)
        have hW7 : wa.heap.size ≤ W7.heap.size := by have h1 := hw9.below.size; simp at h1; omega
        have HR7 := Lib.hid (kept_row hw9.kept ((Below.heap_alloc W6 _ _ (Array.getElem?_eq_some_iff.1 HR6.out).1).trans HR6.out) (by decide) HXA.out)
        clear hw9
        have e2 : W7.cell? ⟨wr.heap.size, 2, none⟩ = some (.string D) := by rw [row_cell HR7.out]; rfl
        clear e1 e3
        repeat (first | (go_at_call 67; fail) | go_skip | go_guarded | go_step | go_upon)
        refine (texts_any B b W7.heap.size 1 _ [x.data] _ (0, 0) _ (Is.below A7.out.has ((Below.refl _ _).alloc (Nat.le_refl _) _)) (by simp; omega) (heap_alloc_new _ _) (by rw [← HD.out]; exact one_cs x.data) (by simp) (by intro t ht; simp at ht; rw [ht]; have := HOk.out.data; omega) (by have h1 := HCut.out k; have h2 := (nodeS_len HOk.out).2; unfold nodeS at h2; simp only [List.length_append, List.flatMap_cons, List.flatMap_nil, List.length_nil] at h1 h2 ⊢; omega)).mono ?_
        rintro r W8 ⟨rfl, hw9⟩
        simp only []
        have A8 := Lib.hid ((A7.out.thenBelow (Nat.le_trans hBa hW7) ((Below.refl _ _).alloc (Nat.le_refl _) _)).wrote HXB.out hw9)
        have hW8 : wa.heap.size ≤ W8.heap.size := by have h1 := hw9.below.size; simp at h1; omega
        clear hw9
        clear e2
        have s3 : W8.cell? ⟨w.heap.size, 3, none⟩ = some (.slice (some ⟨g', o', none⟩) a.stamps.length sc) := by rw [row_cell A8.out.row, ← HCS.out]; rfl
        have b08 : Below W0.heap.size W0 W8 := by
          have e1 := HBW.out
          have e2 := B1.out
          have e3 := A8.out.below
          rw [HB0.out] at e1 ⊢
          exact (e1.trans (e2.mono hBw)).trans e3
        obtain ⟨g2, o2, eg, _, hc2⟩ := (HLM.out.below b08) (by rw [HR.out.len, HN.out]; omega)
        obtain ⟨rfl, rfl⟩ : g' = g2 ∧ o' = o2 := by injection eg with eg; injection eg with e1 e2; exact ⟨e1, e2⟩
        obtain ⟨y0, y1, y2⟩ := hc2 k y HY.out
        have hsl : a.stamps.length = n := by rw [HR.out.len, HN.out]
        rw [hsl] at s3
        obtain ⟨wb, hwb⟩ : ∃ wb, W8.alloc (.cells #[.int .i64 y.ino, .int .i64 y.size, .int .i64 y.time] 67) = wb := ⟨_, rfl⟩
        have bwb : Below W8.heap.size W8 wb := by rw [← hwb]; exact (Below.refl _ _).alloc (Nat.le_refl _) _
        have rwb : wb.heap[W8.heap.size]? = some (.cells #[.int .i64 y.ino, .int .i64 y.size, .int .i64 y.time] 67 (0, 0)) := by rw [← hwb]; exact heap_alloc_new W8 _
        have A9 := Lib.hid (A8.out.thenBelow (Nat.le_trans hBa hW8) bwb)
        have hwb9 : wa.heap.size ≤ wb.heap.size := Nat.le_trans hW8 bwb.size
        obtain ⟨f0, f1, f2⟩ : wb.cell? ⟨W8.heap.size, 0, none⟩ = some (.int .i64 y.ino) ∧ wb.cell? ⟨W8.heap.size, 1, none⟩ = some (.int .i64 y.size) ∧ wb.cell? ⟨W8.heap.size, 2, none⟩ = some (.int .i64 y.time) := by
          refine ⟨?_, ?_, ?_⟩ <;> (rw [row_cell rwb]; rfl)
        clear hc2 b08 eg hsl rwb
        repeat (first | (go_at_call 68; fail) | go_skip | go_guarded | go_step | go_upon)
        refine (numbers_any B b wb.heap.size 3 _ [y.ino, y.size, y.time] _ (0, 0) _ (Is.below A9.out.has ((Below.refl _ _).alloc (Nat.le_refl _) _)) (by simp; omega) (heap_alloc_new _ _) (three_ns y.ino y.size y.time) (by simp) (by intro t ht; have := HOk.out.s0; have := HOk.out.s1; simp at ht; rcases ht with rfl | rfl | rfl <;> constructor <;> omega) (by have h1 := HCut.out k; have h2 := (nodeS_len HOk.out).2; unfold nodeS at h2; simp only [List.length_append, List.flatMap_cons, List.flatMap_nil, List.length_nil] at h1 h2 ⊢; omega)).mono ?_
        rintro r W10 ⟨rfl, hw9⟩
        simp only []
        have A10 := Lib.hid ((A9.out.thenBelow (Nat.le_trans hBa hwb9) ((Below.refl _ _).alloc (Nat.le_refl _) _)).wrote HXB.out hw9)
        have hW10 : wa.heap.size ≤ W10.heap.size := by have h1 := hw9.below.size; simp at h1; omega
        clear hw9
        clear f0 f1 f2 y0 y1 y2 s3
        repeat (first | go_skip | go_guarded | go_step | go_upon)
        refine ⟨⟨k + 1, by go_num, by rw [HN.out]; omega, ?_⟩, by simp [Go.RowKit.intOf]; omega⟩
        have e : headS a ++ nodesS (a.tree.take (k + 1)) (a.stamps.take (k + 1)) = headS a ++ nodesS (a.tree.take k) (a.stamps.take k) ++ [x.path].flatMap textS ++ [x.kind, x.mode].flatMap numS ++ [x.data].flatMap textS ++ [y.ino, y.size, y.time].flatMap numS := by
          rw [HSn.out]
          unfold nodeS
          simp
        rw [e]
        exact A10.out
      · have hkz : ¬ (k : Int) < n := by omega
        have hkn : k = n := by omega
        subst hkn
        clear hlt
        repeat (first | go_skip | go_guarded | go_step | go_upon)
        go_end0
        have h9 := HW.out
        rw [List.take_of_length_le (by rw [HN.out]; exact Nat.le_refl _), List.take_of_length_le (by rw [HR.out.len, HN.out]; exact Nat.le_refl _), ← pay_head] at h9
        exact ⟨rfl, h9.has, (B1.out.mono hBw).trans h9.below, (kept_below B1.out).trans h9.kept⟩
  rw [← hcs] at hgoal
  unfold arV
  rw [hB]
  exact hgoal
end AW
end Go.Proofs.YtiggdojppfblkaaGreatDoor
end

section
/- Layer 9: the contract of (*strings.Builder).String of the writer's builder. -/
namespace Go.Proofs.YtiggdojppfblkaaGreatDoor
open Go.RowKit Go.Lib
namespace AW
open CP CR AP GB

theorem cellsU8 : Tryz.prog.cellsOf 5 = 1 := by kernel_rfl
set_option maxRecDepth 100000 in
set_option maxHeartbeats 1600000 in
theorem string_any (B b : Nat) (l : List UInt8) (w : World) (h : Has B b l w) (h0 : l ≠ []) :
    Calls Tryz.prog 37 #[.pointer (some ⟨b, 0, none⟩)] w fun e w' => e = .returned (.string ⟨l.toArray⟩) ∧ Below B w w' := by
  obtain ⟨p, hAt⟩ : ∃ p, GB.At B b p (Lib.byteCells l) w := by
    rcases h with h | h
    · exact ⟨_, h⟩
    · exact ⟨_, h⟩
  obtain ⟨hB, v, hbk, hown, hne⟩ := hAt
  rw [Lib.byteCells_length] at hown
  have hl0 : l.length ≠ 0 := by simpa using h0
  obtain ⟨g, cap, cur, fz, rfl, hbg, hg, hfz, hnc, hcm, hcs, htake⟩ : ∃ g cap cur fz, v = .slice (some ⟨g, 0, none⟩) l.length cap ∧ B ≤ g ∧ w.heap[g]? = some (.cells cur 5 fz) ∧ fz.2 ≤ l.length * 1 ∧ l.length ≤ cap ∧ cap ≤ maxLen ∧ cur.size = cap * 1 ∧ cur.toList.take (l.length * 1) = Lib.byteCells l := by
    rcases hown.2 with ⟨_, hz⟩ | ⟨g, cap, cur, fz, hv, r⟩
    · exact absurd hz hl0
    · exact ⟨g, cap, cur, fz, hv, r⟩
  have c1 : w.drew.cell? ⟨b, 1, none⟩ = some (.slice (some ⟨g, 0, none⟩) l.length cap) := by
    have : w.drew.heap[b]? = some (.cells #[p, .slice (some ⟨g, 0, none⟩) l.length cap] 61 (0, 0)) := hbk
    rw [Lib.cell_of_heap this]; rfl
  have c1w : w.cell? ⟨b, 1, none⟩ = some (.slice (some ⟨g, 0, none⟩) l.length cap) := c1
  have hSD : ∀ W, (Builtin.unsafeSliceData_ #[48] 96 #[.slice (some ⟨g, 0, none⟩) l.length cap]).run Tryz.prog W = .ok (.pointer (some ⟨g, 0, none⟩)) W := fun W =>
    Lib.run_unsafeSliceData_row W _ _ _ _ _ (by omega)
  have hUS : (Builtin.unsafeString_ #[96, 3] 9 #[.pointer (some ⟨g, 0, none⟩), .int .i64 l.length]).run Tryz.prog w.drew = .ok (.string ⟨l.toArray⟩) (w.drew.freeze ⟨g, 0, none⟩ l.length) := by
    refine Lib.run_unsafeString_row w.drew 96 3 9 5 Tryz.underlying96 cellsU8 g cur.size (by have hg' : w.drew.heap[g]? = some (.cells cur 5 fz) := hg; simp [World.shape?, hg']) l h0 (by omega) (by unfold maxLen at hcm; omega) ?_
    intro j x hx
    exact hown.cells (g := g) rfl j (.int .u8 x.toNat) (by simp [Lib.byteCells, hx])
  obtain ⟨n, hn⟩ : ∃ n, l.length = n := ⟨_, rfl⟩
  obtain ⟨T, hT⟩ : ∃ T : ByteArray, ⟨l.toArray⟩ = T := ⟨_, rfl⟩
  have hBf : Below B w (w.drew.freeze ⟨g, 0, none⟩ l.length) := Lib.below_freeze (Below.drew (Below.refl B w)) (p := ⟨g, 0, none⟩) hbg _
  rw [hn] at c1 c1w hSD hUS hBf
  rw [hT] at hUS ⊢
  have HBf := Lib.hid hBf
  clear h h0 hl0 hbk hown hne hg hfz hnc hcm hcs htake hn hT hBf
  go_enter Tryz.func37, Tryz.ntmps37
  have mixed : Tryz.prog.follows .mixedOrders = true := by kernel_rfl
  have hSD1 := hSD w.drew
  go_wp2
  go_region_o
  all_goals (go_wp2; go_ret; exact ⟨rfl, HBf.out⟩)
end AW
end Go.Proofs.YtiggdojppfblkaaGreatDoor
end

section
/- Layer 5: the contracts of the document's four, number. -/
namespace Go.Proofs.YtiggdojppfblkaaGreatDoor
open Go.RowKit Go.Lib
namespace RQ
open HP HS RP

theorem byte_at (p : ByteArray) (i : Nat) (h : i < p.size) (z : Int) (hz : z = i) :
    ∃ x : Nat, (p.data.toList.getD i 0).toNat = x ∧ (x : Int) < 256 ∧ ∀ W, (Instr.index 9 (.string p) (.int .i64 z)).run Tryz.prog W = .ok (.int .u8 (x : Nat)) W := by
  subst hz
  refine ⟨_, rfl, ?_, fun W => ?_⟩
  · have := (p.data.toList.getD i 0).toNat_lt
    omega
  · have h0 : 0 ≤ (i : Int) ∧ (i : Int) < (p.size : Int) := by omega
    rw [run_index_string W 9 p .i64 (i : Int) Tryz.underlying9, dif_pos h0]
    have e := Lib.data_getElem? p i h
    rw [List.getD_eq_getElem?_getD, e]
    rfl
set_option maxRecDepth 100000 in
set_option maxHeartbeats 1600000 in
theorem rfour_any (n : Nat) (w : World) (hn : n < 4294967296) : Calls Tryz.prog 71 #[.int .u32 n] w fun r w' => r = .returned (.string ⟨(be4 n).toArray⟩) ∧ Below w.heap.size w w' := by
  have hz : (n : Int) < 4294967296 := by omega
  have hrow := heap_alloc_new w (.cells #[.int .u8 ((n : Int) / 16777216), .int .u8 ((n : Int) / 65536 % 256), .int .u8 ((n : Int) / 256 % 256), .int .u8 ((n : Int) % 256)] 5)
  have hcv : (convert 48 9 (.slice (some ⟨w.heap.size, 0, none⟩) 4 4)).run Tryz.prog (w.alloc (.cells #[.int .u8 ((n : Int) / 16777216), .int .u8 ((n : Int) / 65536 % 256), .int .u8 ((n : Int) / 256 % 256), .int .u8 ((n : Int) % 256)] 5)) = .ok (.string ⟨(be4 n).toArray⟩) (w.alloc (.cells #[.int .u8 ((n : Int) / 16777216), .int .u8 ((n : Int) / 65536 % 256), .int .u8 ((n : Int) / 256 % 256), .int .u8 ((n : Int) % 256)] 5)) :=
    run_convert_bytes_back (P := Tryz.prog) _ 48 9 5 ⟨w.heap.size, 0, none⟩ 4 (be4 n) Tryz.underlying48 Tryz.underlying5 Tryz.underlying9 (fun j hj => by
      have hadd : (⟨w.heap.size, 0, none⟩ : Addr).add j = ⟨w.heap.size, j, none⟩ := by unfold Addr.add; split <;> simp_all
      rw [hadd, cell_of_row _ _ j _ _ _ hrow]
      have h4 : j < 4 := by rw [be4_len] at hj; exact hj
      have e : ∀ m, (UInt8.ofNat (m % 256)).toNat = m % 256 := fun m => of_byte _ (Nat.mod_lt _ (by decide))
      simp only [be4_is]
      match j, h4 with
      | 0, _ => simp [e]; omega
      | 1, _ => simp [e]
      | 2, _ => simp [e]
      | 3, _ => simp [e])
  clear hrow
  go_enter Tryz.func71, Tryz.ntmps71
  go_wp2
  go_ret
  exact ⟨rfl, (Below.refl _ _).alloc (Nat.le_refl _) _⟩
set_option maxRecDepth 100000 in
set_option maxHeartbeats 1600000 in
theorem rnumber_any (s : ByteArray) (k : Nat) (w : World) (h : k + 4 ≤ s.size) (hm : s.size ≤ maxLen) : Calls Tryz.prog 108 #[.string s, .int .i64 k] w fun r w' => r = .returned (.int .u32 (num4 s.data.toList k : Nat)) ∧ Below w.heap.size w w' := by
  unfold maxLen at hm
  obtain ⟨x0, e0, l0, i0⟩ := byte_at s k (by omega) k rfl
  obtain ⟨x1, e1, l1, i1⟩ := byte_at s (k + 1) (by omega) ((k : Int) + 1) (by omega)
  obtain ⟨x2, e2, l2, i2⟩ := byte_at s (k + 2) (by omega) ((k : Int) + 2) (by omega)
  obtain ⟨x3, e3, l3, i3⟩ := byte_at s (k + 3) (by omega) ((k : Int) + 3) (by omega)
  have HN : Hid (num4 s.data.toList k = x0 * 16777216 + x1 * 65536 + x2 * 256 + x3) := Lib.hid (by unfold num4; rw [e0, e1, e2, e3])
  have hk : (k : Int) + 4 ≤ 9223372036854775807 := by omega
  clear e0 e1 e2 e3 h hm
  go_enter Tryz.func108, Tryz.ntmps108
  go_wp2_with fail
  go_region
  all_goals (try go_wp2_with fail)
  all_goals
    go_ret
    refine ⟨?_, (Below.refl _ _).drew⟩
    rw [HN.out]
    simp
/-- What the check sum's contract says. -/
def CrcOf : Prop := ∀ (s : ByteArray) (w : World), s.size ≤ maxLen → Calls Tryz.prog 72 #[.string s] w fun e w' => e = .returned (.int .u32 (crcL s.data.toList : Nat)) ∧ w = w'
def packE (l : List UInt8) : Nat := if l.length ≤ MaxP then 0 else 32
def packT (l : List UInt8) : List UInt8 := if l.length ≤ MaxP then packL l else []
theorem bytes_app (a b : List UInt8) : (⟨a.toArray⟩ : ByteArray) ++ ⟨b.toArray⟩ = ⟨(a ++ b).toArray⟩ := by
  apply ByteArray.ext
  simp
theorem bytes_is (s : ByteArray) : s = ⟨s.data.toList.toArray⟩ := by
  apply ByteArray.ext
  simp
set_option maxRecDepth 100000 in
set_option maxHeartbeats 1600000 in
theorem rpack_any (CC : CrcOf) (l : List UInt8) (w : World) (hm : l.length ≤ maxLen) :
    Calls Tryz.prog 40 #[.string ⟨l.toArray⟩] w fun r w' => r = .returned (.tuple #[.string ⟨(packT l).toArray⟩, .int .i64 (packE l : Nat)]) ∧ Below w.heap.size w w' := by
  unfold packT packE
  have hsz : (⟨l.toArray⟩ : ByteArray).size = l.length := by rw [Lib.size_eq]
  by_cases h : l.length ≤ MaxP
  · rw [if_pos h, if_pos h]
    unfold MaxP at h
    have C1 : Hid (∀ W, Calls Tryz.prog 71 #[.int .u32 l.length] W fun r w' => r = .returned (.string ⟨(be4 l.length).toArray⟩) ∧ Below W.heap.size W w') := Lib.hid (fun W => rfour_any l.length W (by omega))
    have C2 : Hid (∀ W, Calls Tryz.prog 71 #[.int .u32 (crcL (be4 l.length ++ l) : Nat)] W fun r w' => r = .returned (.string ⟨(be4 (crcL (be4 l.length ++ l))).toArray⟩) ∧ Below W.heap.size W w') := Lib.hid (fun W => rfour_any _ W (crcL_lt _))
    have C3 : Hid (∀ W, Calls Tryz.prog 72 #[.string ⟨(be4 l.length ++ l).toArray⟩] W fun r w' => r = .returned (.int .u32 (crcL (be4 l.length ++ l) : Nat)) ∧ W = w') := Lib.hid (fun W => CC _ W (by rw [Lib.size_eq]; simp only [List.length_append, be4_len]; unfold maxLen; omega))
    obtain ⟨F, hF⟩ : ∃ F : List UInt8, be4 l.length = F := ⟨_, rfl⟩
    have hFl : F.length = 4 := by rw [← hF, be4_len]
    have HP : Hid (packL l = F ++ be4 (crcL (F ++ l)) ++ l) := Lib.hid (by unfold packL; rw [hF])
    rw [hF] at C1 C2 C3
    obtain ⟨c, hc⟩ : ∃ c, crcL (F ++ l) = c := ⟨_, rfl⟩
    rw [hc] at C2 C3 HP
    obtain ⟨G, hG⟩ : ∃ G : List UInt8, be4 c = G := ⟨_, rfl⟩
    rw [hG] at C2 HP
    have b1 : (⟨F.toArray⟩ : ByteArray) ++ ⟨l.toArray⟩ = ⟨(F ++ l).toArray⟩ := bytes_app _ _
    have b2 : (⟨F.toArray⟩ : ByteArray) ++ ⟨G.toArray⟩ = ⟨(F ++ G).toArray⟩ := bytes_app _ _
    have b3 : (⟨(F ++ G).toArray⟩ : ByteArray) ++ ⟨l.toArray⟩ = ⟨(F ++ G ++ l).toArray⟩ := bytes_app _ _
    have hlz : (l.length : Int) ≤ 1048576 := by omega
    have hGl : G.length = 4 := by rw [← hG, be4_len]
    have s1 : F.length + l.length ≤ 9223372036854775807 := by omega
    have s2 : F.length + G.length ≤ 9223372036854775807 := by omega
    have s3 : F.length + G.length + l.length ≤ 9223372036854775807 := by omega
    have s4 : F.length + (G.length + l.length) ≤ 9223372036854775807 := by omega
    have t1 : (F.length : Int) + l.length ≤ 9223372036854775807 := by omega
    have t2 : (F.length : Int) + G.length ≤ 9223372036854775807 := by omega
    have t3 : (F.length : Int) + G.length + l.length ≤ 9223372036854775807 := by omega
    clear hF hFl hGl hc hG
    rw [HP.out]
    go_enter Tryz.func40, Tryz.ntmps40
    go_wp2_with (first | (go_at_call 71; with_reducible refine (C1.out _).mono ?_; rintro r w1 ⟨rfl, hb1⟩; have HB1 := Lib.hid hb1; clear hb1) | (go_at_call 71; with_reducible refine (C2.out _).mono ?_; rintro r w2 ⟨rfl, hb2⟩; have HB2 := Lib.hid hb2; clear hb2) | (go_at_call 72; refine (C3.out _).mono ?_; rintro r w3 ⟨rfl, rfl⟩))
    all_goals first | (go_ret2; exact ⟨by simp, Below.trans HB1.out (HB2.out.mono HB1.out.size)⟩) | skip
  · rw [if_neg h, if_neg h]
    unfold MaxP at h
    have hlz : ¬ (l.length : Int) ≤ 1048576 := by omega
    go_enter Tryz.func40, Tryz.ntmps40
    go_wp2
    go_ret2
    exact ⟨rfl, Below.refl _ _⟩
end RQ
end Go.Proofs.YtiggdojppfblkaaGreatDoor
end

section
/- Layer 5: the contract of the document's Next. -/
namespace Go.Proofs.YtiggdojppfblkaaGreatDoor
open Go.RowKit Go.Lib Go.BigFrame
namespace RQ
open HP HS RP

def nextV (l : List UInt8) : Ending := .returned (.tuple #[.string ⟨(nextL l).2.1.toArray⟩, .string ⟨(nextL l).2.2.toArray⟩, .int .i64 ((nextL l).1 : Nat)])
theorem ext_bytes (l : List UInt8) (a b : Nat) : (⟨l.toArray⟩ : ByteArray).extract a b = ⟨((l.drop a).take (b - a)).toArray⟩ := by
  apply ByteArray.ext
  apply Array.ext'
  exact Lib.extract_data _ a b
/-- A callee's contract, met in a world of a region that draws its order. -/
theorem reg_of {f : FuncId} {args : Array Value} {v : Value} {w : World} (h : ∀ W, Below w.heap.size w W → Calls Tryz.prog f args W fun e w' => e = .returned v ∧ Below W.heap.size W w') (d : Nat) (os : Array Obj) :
    Calls Tryz.prog f args (Go.Sort.grow (redrawn w d) os) fun e w'' => e = .returned v ∧ ∃ p : Regrown, w'' = Go.Sort.grow (redrawn w p.d) p.os := Calls.regrown_of (h _ (below_regrown w d os))
theorem sl_mid (S : ByteArray) (a b : Nat) (za zb : Int) (ha : za = a) (hb : zb = b) (h1 : a ≤ b) (h2 : b ≤ S.size) (W : World) :
    (Instr.slice 9 (.string S) (some (.int .i64 za)) (some (.int .i64 zb)) none).run Tryz.prog W = .ok (.string ⟨((S.data.toList.drop a).take (b - a)).toArray⟩) W := by
  subst ha hb
  rw [run_slice_string W 9 S .i64 .i64 a b Tryz.underlying9 (by omega) (by omega) (by omega), bytes_is S, ext_bytes]
  rfl
theorem sl_from (S : ByteArray) (a : Nat) (za : Int) (ha : za = a) (h2 : a ≤ S.size) (W : World) :
    (Instr.slice 9 (.string S) (some (.int .i64 za)) none none).run Tryz.prog W = .ok (.string ⟨(S.data.toList.drop a).toArray⟩) W := by
  subst ha
  rw [run_slice_string_from_if W 9 S .i64 a Tryz.underlying9, if_pos (by omega), bytes_is S, ext_bytes, List.take_of_length_le (by rw [List.length_drop, Lib.size_eq]; simp)]
  rfl
theorem sl_to (S : ByteArray) (a : Nat) (za : Int) (ha : za = a) (h2 : a ≤ S.size) (W : World) :
    (Instr.slice 9 (.string S) none (some (.int .i64 za)) none).run Tryz.prog W = .ok (.string ⟨(S.data.toList.take a).toArray⟩) W := by
  subst ha
  rw [run_slice_string_to_if W 9 S .i64 a Tryz.underlying9, if_pos (by omega), bytes_is S, ext_bytes]
  rfl
set_option maxRecDepth 100000 in
set_option maxHeartbeats 1600000 in
theorem rnext_any (CC : CrcOf) (l : List UInt8) (w : World) (hm : l.length ≤ 140737488355328) :
    Calls Tryz.prog 79 #[.string ⟨l.toArray⟩] w fun r w' => r = nextV l ∧ Below w.heap.size w w' := by
  have hsz : (⟨l.toArray⟩ : ByteArray).size = l.length := by rw [Lib.size_eq]
  obtain ⟨S, hS⟩ : ∃ S : ByteArray, S = ⟨l.toArray⟩ := ⟨_, rfl⟩
  have HSz : S.size = l.length := by rw [hS]; exact hsz
  have hSd : S.data.toList = l := by rw [hS]
  rw [← hS]
  obtain ⟨z, hz⟩ : ∃ z, l.length = z := ⟨_, rfl⟩
  by_cases h8 : z < 8
  · have hV : nextL l = (50, [], []) := by unfold nextL; rw [if_pos (by omega)]
    have HV : Hid (nextV l = .returned (.tuple #[.string ⟨#[]⟩, .string ⟨#[]⟩, .int .i64 50])) := Lib.hid (by unfold nextV; rw [hV]; rfl)
    have h8z : (S.size : Int) < 8 := by omega
    clear hV hS hSd hsz HSz hz
    go_enter Tryz.func79, Tryz.ntmps79
    go_wp2
    go_ret3
    exact ⟨by rw [HV.out]; rfl, Below.refl _ _⟩
  · obtain ⟨n, hn⟩ : ∃ n, num4 l 0 = n := ⟨_, rfl⟩
    have hnl : n < 4294967296 := by rw [← hn]; exact num_lt l 0
    have C1 : Hid (∀ W, Calls Tryz.prog 108 #[.string S, .int .i64 0] W fun r w' => r = .returned (.int .u32 n) ∧ Below W.heap.size W w') := Lib.hid (fun W => by
      have h := rnumber_any S 0 W (by omega) (by unfold maxLen; omega)
      rw [hSd, hn] at h
      exact h)
    have h8z : ¬ (S.size : Int) < 8 := by omega
    have hnz : (n : Int) < 4294967296 := by omega
    by_cases h1 : MaxP < n
    · have hV : nextL l = (32, [], []) := by unfold nextL; rw [if_neg (by omega), hn, if_pos h1]
      have HV : Hid (nextV l = .returned (.tuple #[.string ⟨#[]⟩, .string ⟨#[]⟩, .int .i64 32])) := Lib.hid (by unfold nextV; rw [hV]; rfl)
      have h1z : (1048576 : Int) < n := by unfold MaxP at h1; omega
      clear hV hS hSd hsz HSz hz hnl hn
      go_enter Tryz.func79, Tryz.ntmps79
      go_wp2_with (go_at_call 108; with_reducible refine (C1.out _).mono ?_; rintro r w1 ⟨rfl, hb1⟩; have HB1 := Lib.hid hb1; clear hb1)
      go_ret3
      exact ⟨by rw [HV.out]; rfl, HB1.out⟩
    · have h1z : ¬ (1048576 : Int) < n := by unfold MaxP at h1; omega
      by_cases h2 : z < n + 8
      · have hV : nextL l = (50, [], []) := by unfold nextL; rw [if_neg (by omega), hn, if_neg h1, hz, if_pos h2]
        have HV : Hid (nextV l = .returned (.tuple #[.string ⟨#[]⟩, .string ⟨#[]⟩, .int .i64 50])) := Lib.hid (by unfold nextV; rw [hV]; rfl)
        have h2z : (S.size : Int) - 8 < n := by omega
        clear hV hS hSd hsz hnl hn
        obtain ⟨q, hq⟩ : ∃ q : Nat, (S.size : Int) = q + 8 := ⟨z - 8, by omega⟩
        have h2q : (q : Int) < n := by omega
        clear h8 h1 h2 hz HSz hm h2z h8z
        have h8z : ¬ (q : Int) + 8 < 8 := by omega
        go_enter Tryz.func79, Tryz.ntmps79
        repeat (first | (go_at_call 108; with_reducible refine (C1.out _).mono ?_; rintro r w1 ⟨rfl, hb1⟩; simp only []; have HB1 := Lib.hid hb1; clear hb1) | go_skip | go_guarded | go_step | go_upon)
        go_ret3
        exact ⟨by rw [HV.out]; rfl, HB1.out⟩
      · obtain ⟨q, hq⟩ : ∃ q : Nat, (S.size : Int) = q + 8 := ⟨z - 8, by omega⟩
        have h2q : ¬ (q : Int) < n := by omega
        obtain ⟨m, hm4⟩ : ∃ m, num4 l 4 = m := ⟨_, rfl⟩
        have hml : m < 4294967296 := by rw [← hm4]; exact num_lt l 4
        have C2 : Hid (∀ W, Calls Tryz.prog 108 #[.string S, .int .i64 4] W fun r w' => r = .returned (.int .u32 m) ∧ Below W.heap.size W w') := Lib.hid (fun W => by
          have h := rnumber_any S 4 W (by omega) (by unfold maxLen; omega)
          rw [hSd, hm4] at h
          exact h)
        have hmz : (m : Int) < 4294967296 := by omega
        clear h8z
        have h8z : ¬ (q : Int) + 8 < 8 := by omega
        obtain ⟨P, hP⟩ : ∃ P, (l.drop 8).take n = P := ⟨_, rfl⟩
        obtain ⟨R, hR⟩ : ∃ R, l.drop (8 + n) = R := ⟨_, rfl⟩
        obtain ⟨F, hF⟩ : ∃ F, l.take 4 = F := ⟨_, rfl⟩
        have hPl : P.length = n := by rw [← hP, List.length_take, List.length_drop]; omega
        have hFl : F.length = 4 := by rw [← hF, List.length_take]; omega
        obtain ⟨TP, hTP⟩ : ∃ T : ByteArray, ⟨P.toArray⟩ = T := ⟨_, rfl⟩
        obtain ⟨TR, hTR⟩ : ∃ T : ByteArray, ⟨R.toArray⟩ = T := ⟨_, rfl⟩
        obtain ⟨TF, hTF⟩ : ∃ T : ByteArray, ⟨F.toArray⟩ = T := ⟨_, rfl⟩
        obtain ⟨TC, hTC⟩ : ∃ T : ByteArray, ⟨(F ++ P).toArray⟩ = T := ⟨_, rfl⟩
        have s1 := sl_mid S 8 (8 + n) 8 (8 + (n : Int)) rfl (by omega) (by omega) (by omega)
        have s2 := sl_to S 4 4 rfl (by omega)
        have s3 := sl_from S (8 + n) (8 + (n : Int)) (by omega) (by omega)
        rw [hSd, Nat.add_sub_cancel_left, hP, hTP] at s1
        rw [hSd, hF, hTF] at s2
        rw [hSd, hR, hTR] at s3
        have hcat : TF ++ TP = TC := by rw [← hTF, ← hTP, ← hTC]; exact bytes_app _ _
        have hcl : TF.size + TP.size ≤ 9223372036854775807 := by rw [← hTF, ← hTP, Lib.size_eq, Lib.size_eq]; simp; omega
        obtain ⟨c, hc⟩ : ∃ c, crcL (F ++ P) = c := ⟨_, rfl⟩
        have hcz : (c : Int) < 4294967296 := by have := crcL_lt (F ++ P); omega
        have C3 : Hid (∀ W, Calls Tryz.prog 72 #[.string TC] W fun r w' => r = .returned (.int .u32 c) ∧ W = w') := Lib.hid (fun W => by
          have h := CC TC W (by rw [← hTC, Lib.size_eq]; simp [maxLen]; omega)
          have e : TC.data.toList = F ++ P := by rw [← hTC]
          rw [e, hc] at h
          exact h)
        by_cases hmc : m = c
        · have HV : Hid (nextV l = .returned (.tuple #[.string TP, .string TR, .int .i64 0])) := Lib.hid (by
            unfold nextV nextL
            rw [if_neg (by omega), hn, if_neg h1, hz, if_neg h2, hm4, hF, hP, hR, hc, if_pos hmc, ← hTP, ← hTR]
            rfl)
          have hmcz : ((m : Int) != (c : Int)) = false := by rw [hmc]; simp
          have hqs : (q : Int) + 8 ≤ 140737488355328 := by omega
          clear h8 h1 h2 hz hm HSz hSd hsz hS hn hm4 hml hnl hP hR hF hPl hFl hTP hTR hTF hTC hc hmc
          go_enter Tryz.func79, Tryz.ntmps79
          repeat (first | (go_at_call_of 108 (Value.int IntKind.i64 0); refine (C1.out _).mono ?_; rintro r w1 ⟨rfl, hb1⟩; simp only []; have HB1 := Lib.hid hb1; clear hb1) | go_skip | go_guarded | go_step | go_upon)
          have D2 := Lib.hid (reg_of (w := w1) (fun W _ => C2.out W))
          have D3 := Lib.hid (reg_of (w := w1) (fun W _ => (C3.out W).mono fun r w' h => ⟨h.1, h.2 ▸ Below.refl _ _⟩))
          with_reducible refine wp_region_quiet_below (by kernel_rfl) (by kernel_rfl) ?_
          repeat (go_big_quiet_step (first | (go_at_call 108; exact D2.out _ _) | (go_at_call 72; exact D3.out _ _)))
          refine wpQuiet_nil ?_
          intro _ hw'
          obtain ⟨⟨dq, osq⟩, hw''⟩ := hw'
          subst hw''
          have HB2 : Hid (Below w.heap.size w (Go.Sort.grow (redrawn w1 dq) osq)) := Lib.hid (Below.trans HB1.out ((below_regrown w1 dq osq).mono HB1.out.size))
          generalize Go.Sort.grow (redrawn w1 dq) osq = w2 at HB2 ⊢
          repeat (first | go_skip | go_guarded | go_step | go_upon)
          go_quiet (fail)
          rename_i nq
          have HB3 : Hid (Below w.heap.size w (w2.drewN nq)) := Lib.hid ⟨HB2.out.os, HB2.out.tape, HB2.out.output, HB2.out.size, HB2.out.block⟩
          generalize w2.drewN nq = w3 at HB3 ⊢
          repeat (first | go_skip | go_guarded | go_step | go_upon)
          go_ret3
          exact ⟨HV.out.symm, HB3.out⟩
        · have HV : Hid (nextV l = .returned (.tuple #[.string ⟨#[]⟩, .string ⟨#[]⟩, .int .i64 51])) := Lib.hid (by
            unfold nextV nextL
            rw [if_neg (by omega), hn, if_neg h1, hz, if_neg h2, hm4, hF, hP, hc, if_neg hmc]
            rfl)
          have hmcz : ((m : Int) != (c : Int)) = true := by simp; omega
          have hqs : (q : Int) + 8 ≤ 140737488355328 := by omega
          clear h8 h1 h2 hz hm HSz hSd hsz hS hn hm4 hml hnl hP hR hF hPl hFl hTP hTR hTF hTC hc hmc
          go_enter Tryz.func79, Tryz.ntmps79
          repeat (first | (go_at_call_of 108 (Value.int IntKind.i64 0); refine (C1.out _).mono ?_; rintro r w1 ⟨rfl, hb1⟩; simp only []; have HB1 := Lib.hid hb1; clear hb1) | go_skip | go_guarded | go_step | go_upon)
          have D2 := Lib.hid (reg_of (w := w1) (fun W _ => C2.out W))
          have D3 := Lib.hid (reg_of (w := w1) (fun W _ => (C3.out W).mono fun r w' h => ⟨h.1, h.2 ▸ Below.refl _ _⟩))
          with_reducible refine wp_region_quiet_below (by kernel_rfl) (by kernel_rfl) ?_
          repeat (go_big_quiet_step (first | (go_at_call 108; exact D2.out _ _) | (go_at_call 72; exact D3.out _ _)))
          refine wpQuiet_nil ?_
          intro _ hw'
          obtain ⟨⟨dq, osq⟩, hw''⟩ := hw'
          subst hw''
          have HB2 : Hid (Below w.heap.size w (Go.Sort.grow (redrawn w1 dq) osq)) := Lib.hid (Below.trans HB1.out ((below_regrown w1 dq osq).mono HB1.out.size))
          generalize Go.Sort.grow (redrawn w1 dq) osq = w2 at HB2 ⊢
          repeat (first | go_skip | go_guarded | go_step | go_upon)
          go_ret3
          exact ⟨by rw [HV.out]; rfl, HB2.out⟩
end RQ
end Go.Proofs.YtiggdojppfblkaaGreatDoor
end

section
/- Layer 5 over lists, continued: what Next and All come to, step by step (no program is read here). -/
namespace Go.Proofs.YtiggdojppfblkaaGreatDoor
open Go
namespace RP
open HP HS
theorem next_cases (s : List UInt8) : (∃ p r, nextL s = (0, p, r)) ∨ ∃ e, nextL s = (e + 1, [], []) ∧ e < 51 := by
  unfold nextL
  by_cases h1 : s.length < 8
  · rw [if_pos h1]; exact .inr ⟨49, rfl, by decide⟩
  · rw [if_neg h1]
    by_cases h2 : MaxP < num4 s 0
    · rw [if_pos h2]; exact .inr ⟨31, rfl, by decide⟩
    · rw [if_neg h2]
      by_cases h3 : s.length < num4 s 0 + 8
      · rw [if_pos h3]; exact .inr ⟨49, rfl, by decide⟩
      · rw [if_neg h3]
        by_cases h4 : num4 s 4 = crcL (s.take 4 ++ (s.drop 8).take (num4 s 0))
        · rw [if_pos h4]; exact .inl ⟨_, _, rfl⟩
        · rw [if_neg h4]; exact .inr ⟨50, rfl, by decide⟩
theorem next_shrinks {s p r : List UInt8} (h : nextL s = (0, p, r)) : s.length = p.length + 8 + r.length := by
  rw [(next_ok h).1, List.length_append, pack_len]
theorem all_fuel : ∀ (f g : Nat) (s : List UInt8), s.length ≤ f → s.length ≤ g → allGo f s = allGo g s
  | 0, 0, _, _, _ => rfl
  | 0, g + 1, s, h, _ => by
    have e : s = [] := List.eq_nil_of_length_eq_zero (by omega)
    subst e
    rfl
  | f + 1, 0, s, _, h => by
    have e : s = [] := List.eq_nil_of_length_eq_zero (by omega)
    subst e
    rfl
  | f + 1, g + 1, s, hf, hg => by
    rw [allGo, allGo]
    by_cases h0 : s = []
    · rw [if_pos h0, if_pos h0]
    · rw [if_neg h0, if_neg h0]
      rcases next_cases s with ⟨p, r, hn⟩ | ⟨e, hn, _⟩
      · have := next_shrinks hn
        rw [hn]
        simp only
        rw [all_fuel f g r (by omega) (by omega)]
      · rw [hn]
theorem all_nil : allL [] = ([], 0, 0) := rfl
theorem all_step {s p r : List UInt8} (h : nextL s = (0, p, r)) : allL s = (p :: (allL r).1, s.length - r.length + (allL r).2.1, (allL r).2.2) := by
  have hs := next_shrinks h
  have h0 : s ≠ [] := fun e => by rw [e] at hs; simp at hs; omega
  unfold allL
  obtain ⟨f, hf⟩ : ∃ f, s.length = f + 1 := ⟨s.length - 1, by omega⟩
  rw [all_fuel s.length (f + 1) s (Nat.le_refl _) (by omega), allGo, if_neg h0, h]
  simp only
  rw [all_fuel f r.length r (by omega) (Nat.le_refl _)]
theorem all_bad {s : List UInt8} {e : Nat} (h0 : s ≠ []) (h : nextL s = (e + 1, [], [])) : allL s = ([], 0, e + 1) := by
  unfold allL
  cases hl : s.length with
  | zero => exact absurd (List.eq_nil_of_length_eq_zero hl) h0
  | succ f => rw [allGo, if_neg h0, h]
end RP
end Go.Proofs.YtiggdojppfblkaaGreatDoor
end

section
/- Layer 5: the contracts of the document's One, All and Join. -/
namespace Go.Proofs.YtiggdojppfblkaaGreatDoor
open Go.RowKit Go.Lib Go.BigFrame
namespace RQ
open HP HS RP OM

def txt (l : List UInt8) : Value := .string ⟨l.toArray⟩
def oneV (l : List UInt8) : Ending := .returned (.tuple #[txt (oneL l).2, .int .i64 ((oneL l).1 : Nat)])
set_option maxRecDepth 100000 in
set_option maxHeartbeats 1600000 in
theorem rone_any (CC : CrcOf) (l : List UInt8) (w : World) (hm : l.length ≤ 140737488355328) :
    Calls Tryz.prog 44 #[txt l] w fun r w' => r = oneV l ∧ Below w.heap.size w w' := by
  have cN := rnext_any CC l w hm
  unfold nextV at cN
  unfold txt
  rcases next_cases l with ⟨p, r, hn⟩ | ⟨e, hn, he⟩
  · rw [hn] at cN
    simp only at cN
    cases r with
    | nil =>
      have HV : Hid (oneV l = .returned (.tuple #[txt p, .int .i64 0])) := Lib.hid (by unfold oneV oneL; rw [hn]; rfl)
      have CN := Lib.hid cN
      clear cN hn
      go_enter Tryz.func44, Tryz.ntmps44
      go_wp2_with (go_at_call 79; refine CN.out.mono ?_; rintro r w1 ⟨rfl, hb1⟩; have HB1 := Lib.hid hb1; clear hb1)
      go_ret2
      exact ⟨HV.out.symm, HB1.out⟩
    | cons x r =>
      have HV : Hid (oneV l = .returned (.tuple #[.string ⟨#[]⟩, .int .i64 32])) := Lib.hid (by unfold oneV oneL; rw [hn]; rfl)
      have CN := Lib.hid cN
      obtain ⟨T, hT⟩ : ∃ T : ByteArray, ⟨(x :: r).toArray⟩ = T := ⟨_, rfl⟩
      have hTe : T.toList.isEmpty = false := by rw [← hT, Lib.toList_data]; rfl
      rw [hT] at CN
      clear cN hn hT
      go_enter Tryz.func44, Tryz.ntmps44
      go_wp2_with (go_at_call 79; refine CN.out.mono ?_; rintro r w1 ⟨rfl, hb1⟩; have HB1 := Lib.hid hb1; clear hb1)
      go_ret2
      exact ⟨by rw [HV.out]; rfl, HB1.out⟩
  · rw [hn] at cN
    simp only at cN
    have HV : Hid (oneV l = .returned (.tuple #[.string ⟨#[]⟩, .int .i64 ((e + 1 : Nat) : Int)])) := Lib.hid (by unfold oneV oneL; rw [hn]; rfl)
    obtain ⟨z, hz⟩ : ∃ z : Int, ((e + 1 : Nat) : Int) = z := ⟨_, rfl⟩
    have hz0 : (z == 0) = false := by simp; omega
    have hz1 : z ≠ 0 := by omega
    rw [hz] at HV cN
    have CN := Lib.hid cN
    clear cN hn hz
    go_enter Tryz.func44, Tryz.ntmps44
    go_wp2_with (go_at_call 79; refine CN.out.mono ?_; rintro r w1 ⟨rfl, hb1⟩; have HB1 := Lib.hid hb1; clear hb1)
    go_ret2
    exact ⟨HV.out.symm, HB1.out⟩
end RQ
end Go.Proofs.YtiggdojppfblkaaGreatDoor
end

section
/- The check sum alone (for the layers above hash): what the program's table holds (Env), and the contracts of the program's Crc and of the document's. -/
namespace Go.Proofs.YtiggdojppfblkaaGreatDoor
open Go.RowKit Go.Lib
namespace HCr
open HP

theorem ofInt_u32 (a : Nat) (ha : a < 2 ^ 32) : (BitVec.ofInt 32 (a : Int)).toNat = a := by
  rw [BitVec.ofInt_natCast, BitVec.toNat_ofNat]; exact Nat.mod_eq_of_lt (by omega)
theorem wrap_u32 (n : Nat) (h : n < 2 ^ 32) : IntKind.u32.wrap (n : Int) = n := by
  simp [IntKind.wrap, IntKind.bits, IntKind.signed]
  omega
theorem xor_u32 (a b : Nat) (ha : a < 2 ^ 32) (hb : b < 2 ^ 32) : bits .xor .u32 (a : Int) (b : Int) = ((a ^^^ b : Nat) : Int) := by
  have hx : a ^^^ b < 2 ^ 32 := Nat.xor_lt_two_pow ha hb
  show IntKind.u32.wrap ((BitVec.ofInt 32 (a : Int) ^^^ BitVec.ofInt 32 (b : Int)).toNat : Int) = _
  rw [BitVec.toNat_xor, ofInt_u32 a ha, ofInt_u32 b hb, wrap_u32 _ hx]
theorem size_data (s : ByteArray) : s.size = s.data.toList.length := Lib.size_eq s
theorem take_at {l : List UInt8} {k : Nat} {b : UInt8} (h : l[k]? = some b) : l.take (k + 1) = l.take k ++ [b] := by
  rw [List.take_add_one, h]
  rfl
theorem crcR_snoc (v : Nat) (l : List UInt8) (b : UInt8) : crcR v (l ++ [b]) = crcB (crcR v l) b := by rw [crcR_app]; rfl
set_option maxRecDepth 100000 in
set_option maxHeartbeats 1600000 in
theorem rcrc_any (s : ByteArray) (w : World) (hs : s.size ≤ maxLen) :
    Calls Tryz.prog 72 #[.string s] w fun e w' => e = .returned (.int .u32 (crcL s.data.toList : Nat)) ∧ w = w' := by
  unfold maxLen at hs
  have HS := Lib.hid (size_data s)
  go_enter Tryz.func72, Tryz.ntmps72
  go_wp2
  go_loop [3, 4] (fun s3 s4 => ∃ k v : Nat, k ≤ s.size ∧ s4 = .int .i64 k ∧ s3 = .int .u32 v ∧ v < 2 ^ 32 ∧ crcR 4294967295 (s.data.toList.take k) = v) (fun _ s4 => s.size - (Go.RowKit.intOf s4).toNat)
  case atStart => exact ⟨0, 4294967295, Nat.zero_le _, rfl, rfl, by decide, rfl⟩
  case round =>
    obtain ⟨k, v, hk, rfl, rfl, hv, hc⟩ := hrel
    have HV := Lib.hid hv
    have HC := Lib.hid hc
    clear hc
    by_cases hlt : k < s.size
    · have hz : (k : Int) < s.size := by omega
      have hb := (s[k]).toNat_lt
      have HX := Lib.hid (xor_u32 v (s[k]).toNat hv (by omega))
      have HT := Lib.hid (take_at (Lib.data_getElem? s k hlt))
      have hlt2 := Nat.xor_lt_two_pow hv (show (s[k]).toNat < 2 ^ 32 by omega)
      have HL2 := Lib.hid hlt2
      have hbz : ((s[k].toNat : Nat) : Int) < 256 := by omega
      clear hv hb hlt2
      go_wp2_with fail
      go_loop [3, 5] (fun s3 s5 => ∃ j u : Nat, j ≤ 8 ∧ s5 = .int .i64 j ∧ s3 = .int .u32 u ∧ u < 2 ^ 32 ∧ csts (8 - j) u = crcB v s[k]) (fun _ s5 => 8 - (Go.RowKit.intOf s5).toNat)
      case atStart => exact ⟨0, v ^^^ (s[k]).toNat, by omega, rfl, by rw [HX.out], HL2.out, rfl⟩
      case round =>
        obtain ⟨j, u, hj, rfl, rfl, hu, hcs⟩ := hrel
        by_cases hj8 : j < 8
        · have hjz : (j : Int) < 8 := by omega
          have hu32 : (u : Int) < 4294967296 := by omega
          have hstep : csts (8 - (j + 1)) (cst u) = crcB v s[k] := by
            rw [← hcs, show 8 - j = (8 - (j + 1)) + 1 by omega]
            rfl
          have HSt := Lib.hid hstep
          have HU := Lib.hid (cst_lt hu)
          by_cases hp : u % 2 = 1
          · have hpz : ((u : Int) % 2 == 1) = true := by simp; omega
            have HX2 := Lib.hid (xor_u32 (u / 2) 3988292384 (by omega) (by decide))
            have HE : Hid (cst u = u / 2 ^^^ 3988292384) := Lib.hid (by unfold cst; rw [if_pos hp])
            clear hcs hstep hu
            go_wp2_with fail
            go_round
            case rel => exact ⟨j + 1, cst u, by omega, by go_num, by rw [HE.out]; exact congrArg _ HX2.out, HU.out, HSt.out⟩
            case measure => simp [Go.RowKit.intOf]; omega
          · have hpz : ((u : Int) % 2 == 1) = false := by simp; omega
            have HE : Hid (cst u = u / 2) := Lib.hid (by unfold cst; rw [if_neg hp])
            clear hcs hstep hu
            go_wp2_with fail
            go_round
            case rel => exact ⟨j + 1, cst u, by omega, by go_num, by rw [HE.out]; go_num, HU.out, HSt.out⟩
            case measure => simp [Go.RowKit.intOf]; omega
        · have hjz : ¬ (j : Int) < 8 := by omega
          have hj0 : j = 8 := by omega
          subst hj0
          have hcu : u = crcB v s[k] := hcs
          have HCu := Lib.hid hcu
          clear hcs hcu
          go_wp2_with fail
          go_round
          case rel => exact ⟨k + 1, u, by omega, by go_num, rfl, hu, by rw [HT.out, crcR_snoc, HC.out, HCu.out]⟩
          case measure => simp [Go.RowKit.intOf]; omega
    · have hz : ¬ (k : Int) < s.size := by omega
      have HX := Lib.hid (xor_u32 v 4294967295 hv (by decide))
      have HF : Hid (crcL s.data.toList = v ^^^ 4294967295) := Lib.hid (by
        unfold crcL
        rw [← HC.out, List.take_of_length_le (by rw [← HS.out]; omega)])
      clear hv
      go_wp2_with fail
      go_ret
      exact ⟨by rw [HF.out]; exact congrArg (fun z => Ending.returned (Value.int .u32 z)) HX.out, rfl⟩
theorem and_u32 (a b : Nat) (ha : a < 2 ^ 32) (hb : b < 2 ^ 32) : bits .and .u32 (a : Int) (b : Int) = ((a &&& b : Nat) : Int) := by
  have hx : a &&& b < 2 ^ 32 := Nat.lt_of_le_of_lt Nat.and_le_left ha
  show IntKind.u32.wrap ((BitVec.ofInt 32 (a : Int) &&& BitVec.ofInt 32 (b : Int)).toNat : Int) = _
  rw [BitVec.toNat_and, ofInt_u32 a ha, ofInt_u32 b hb, wrap_u32 _ hx]
end HCr
namespace HC
open HP HCr
/-- The program's table of the check sum, as it lies in memory. -/
structure Env (w : World) : Prop where
  chk : ∀ i : Nat, i < 16 → w.cell? ⟨2, i, none⟩ = some (.int .u32 (csts 4 i : Nat))
theorem Env.below {w w' : World} (h : Env w) (hb : Below w.heap.size w w') : Env w' :=
  ⟨fun i hi => by rw [hb.cell (World.block_lt_of_cell? _ _ (h.chk i hi))]; exact h.chk i hi⟩
theorem nib (u : Nat) : u / 16 ^^^ csts 4 (u % 16) = csts 4 u := by
  have e : u = (u / 16 * 2 ^ 4) ^^^ (u % 16) := by
    have h := Nat.two_pow_add_eq_or_of_lt (i := 4) (b := u % 16) (by omega) (u / 16)
    have h2 : (2 ^ 4 * (u / 16)) ^^^ (u % 16) = (2 ^ 4 * (u / 16)) ||| (u % 16) := by
      apply Nat.eq_of_testBit_eq
      intro j
      rw [Nat.testBit_xor, Nat.testBit_or, Nat.testBit_two_pow_mul]
      by_cases hj : 4 ≤ j
      · have : (u % 16).testBit j = false := Nat.testBit_lt_two_pow (Nat.lt_of_lt_of_le (show u % 16 < 2 ^ 4 by omega) (Nat.pow_le_pow_right (by decide) hj))
        simp [this]
      · simp [hj]
    rw [Nat.mul_comm, h2, ← h]
    omega
  conv => rhs; rw [e, csts_xor, csts_shift]
theorem nib_lt (u : Nat) (h : u < 4294967296) : csts 4 u < 4294967296 := csts_lt 4 h
theorem crcB_nib (v : Nat) (b : UInt8) : csts 4 (csts 4 (v ^^^ b.toNat)) = crcB v b := csts_add 4 4 _
theorem and_15 (u : Nat) (h : u < 4294967296) : bits .and .u32 (u : Int) 15 = ((u % 16 : Nat) : Int) := by
  have h := and_u32 u 15 h (by decide)
  rw [show (15 : Nat) = 2 ^ 4 - 1 by decide, Nat.and_two_pow_sub_one_eq_mod] at h
  exact h
set_option maxRecDepth 100000 in
set_option maxHeartbeats 1600000 in
theorem crc_any (s : ByteArray) (w : World) (he : Env w) (hs : s.size ≤ maxLen) :
    Calls Tryz.prog 100 #[.string s] w fun e w' => e = .returned (.int .u32 (crcL s.data.toList : Nat)) ∧ w = w' := by
  unfold maxLen at hs
  have HS := Lib.hid (size_data s)
  have HE := Lib.hid he
  clear he
  go_enter Tryz.func100, Tryz.ntmps100
  go_wp2
  go_loop [3, 4, 7] (fun s3 _ s7 => ∃ k v : Nat, k ≤ s.size ∧ s7 = .int .i64 k ∧ s3 = .int .u32 v ∧ v < 2 ^ 32 ∧ crcR 4294967295 (s.data.toList.take k) = v) (fun _ _ s7 => s.size - (Go.RowKit.intOf s7).toNat)
  case atStart => exact ⟨0, 4294967295, Nat.zero_le _, rfl, rfl, by decide, rfl⟩
  case round =>
    obtain ⟨k, v, hk, rfl, rfl, hv, hc⟩ := hrel
    have HV := Lib.hid hv
    have HC := Lib.hid hc
    clear hc
    by_cases hlt : k < s.size
    · have hz : (k : Int) < s.size := by omega
      have hb := (s[k]).toNat_lt
      have HX := Lib.hid (xor_u32 v (s[k]).toNat hv (by omega))
      have HT := Lib.hid (take_at (Lib.data_getElem? s k hlt))
      have hbz : ((s[k].toNat : Nat) : Int) < 256 := by omega
      obtain ⟨u, hu⟩ : ∃ u, u = v ^^^ (s[k]).toNat := ⟨_, rfl⟩
      have hul : u < 4294967296 := by rw [hu]; exact Nat.xor_lt_two_pow hv (show (s[k]).toNat < 2 ^ 32 by omega)
      have x1 : bits .xor .u32 (v : Int) ((s[k].toNat : Nat) : Int) = u := by rw [HX.out, hu]
      obtain ⟨i, hi⟩ : ∃ i, i = u % 16 := ⟨_, rfl⟩
      have hi16 : (i : Int) < 16 := by omega
      have a1 : bits .and .u32 (u : Int) 15 = i := by rw [and_15 u hul, hi]
      have c1 := HE.out.chk i (by omega)
      obtain ⟨t, ht⟩ : ∃ t, t = csts 4 u := ⟨_, rfl⟩
      have htl : t < 4294967296 := by rw [ht]; exact nib_lt u hul
      have x2 : bits .xor .u32 ((u : Int) / 16) ((csts 4 i : Nat) : Int) = t := by
        rw [show (u : Int) / 16 = ((u / 16 : Nat) : Int) by omega, xor_u32 _ _ (by omega) (nib_lt i (by omega)), hi, nib, ht]
      obtain ⟨j, hj⟩ : ∃ j, j = t % 16 := ⟨_, rfl⟩
      have hj16 : (j : Int) < 16 := by omega
      have a2 : bits .and .u32 (t : Int) 15 = j := by rw [and_15 t htl, hj]
      have c2 := HE.out.chk j (by omega)
      obtain ⟨r, hr⟩ : ∃ r, r = csts 4 t := ⟨_, rfl⟩
      have hrl : r < 4294967296 := by rw [hr]; exact nib_lt t htl
      have x3 : bits .xor .u32 ((t : Int) / 16) ((csts 4 j : Nat) : Int) = r := by
        rw [show (t : Int) / 16 = ((t / 16 : Nat) : Int) by omega, xor_u32 _ _ (by omega) (nib_lt j (by omega)), hj, nib, hr]
      have HCr : Hid (crcB v s[k] = r) := Lib.hid (by rw [hr, ht, hu, crcB_nib])
      have huz : (u : Int) < 4294967296 := by omega
      have htz : (t : Int) < 4294967296 := by omega
      have HRL := Lib.hid hrl
      clear hv hb hu hi ht hj hr hul htl hrl
      go_wp2_with fail
      go_round
      case rel => exact ⟨k + 1, r, by omega, by go_num, rfl, HRL.out, by rw [HT.out, crcR_snoc, HC.out, HCr.out]⟩
      case measure => simp [Go.RowKit.intOf]; omega
    · have hz : ¬ (k : Int) < s.size := by omega
      have HF : Hid (crcL s.data.toList = v ^^^ 4294967295) := Lib.hid (by
        unfold crcL
        rw [← HC.out, List.take_of_length_le (by rw [← HS.out]; omega)])
      have HX := Lib.hid (xor_u32 4294967295 v (by decide) hv)
      clear hv
      go_wp2_with fail
      go_ret
      exact ⟨by rw [HF.out, Nat.xor_comm]; exact congrArg (fun z => Ending.returned (Value.int .u32 z)) HX.out, rfl⟩
end HC
end Go.Proofs.YtiggdojppfblkaaGreatDoor
end

section
/- Layer 5: the contracts of the program's written, read, sum. -/
namespace Go.Proofs.YtiggdojppfblkaaGreatDoor
open Go.RowKit Go.Lib Go.BigFrame
namespace RF
open HP HS RP OM RQ HCr
open HC (Env crc_any)

theorem or_u32 (a b : Nat) (ha : a < 2 ^ 32) (hb : b < 2 ^ 32) : bits .or .u32 (a : Int) (b : Int) = ((a ||| b : Nat) : Int) := by
  have hx : a ||| b < 2 ^ 32 := Nat.or_lt_two_pow ha hb
  show IntKind.u32.wrap ((BitVec.ofInt 32 (a : Int) ||| BitVec.ofInt 32 (b : Int)).toNat : Int) = _
  rw [BitVec.toNat_or, ofInt_u32 a ha, ofInt_u32 b hb, wrap_u32 _ hx]
theorem or_add (a b i : Nat) (hb : b < 2 ^ i) : 2 ^ i * a ||| b = 2 ^ i * a + b := (Nat.two_pow_add_eq_or_of_lt hb a).symm
theorem or4 (a b c d : Nat) (ha : (a : Int) < 256) (hb : (b : Int) < 256) (hc : (c : Int) < 256) (hd : (d : Int) < 256) :
    bits .or .u32 ((a : Int) * 16777216) ((b : Int) * 65536) = ((a * 16777216 + b * 65536 : Nat) : Int) ∧
    bits .or .u32 ((a * 16777216 + b * 65536 : Nat) : Int) ((c : Int) * 256) = ((a * 16777216 + b * 65536 + c * 256 : Nat) : Int) ∧
    bits .or .u32 ((a * 16777216 + b * 65536 + c * 256 : Nat) : Int) (d : Int) = ((a * 16777216 + b * 65536 + c * 256 + d : Nat) : Int) := by
  refine ⟨?_, ?_, ?_⟩
  · rw [show (a : Int) * 16777216 = ((a * 16777216 : Nat) : Int) by omega, show (b : Int) * 65536 = ((b * 65536 : Nat) : Int) by omega, or_u32 _ _ (by omega) (by omega)]
    have := or_add a (b * 65536) 24 (by omega)
    rw [show a * 16777216 = 2 ^ 24 * a by omega, this]
  · rw [show (c : Int) * 256 = ((c * 256 : Nat) : Int) by omega, or_u32 _ _ (by omega) (by omega)]
    have := or_add (a * 256 + b) (c * 256) 16 (by omega)
    rw [show a * 16777216 + b * 65536 = 2 ^ 16 * (a * 256 + b) by omega, this]
  · rw [or_u32 _ _ (by omega) (by omega)]
    have := or_add (a * 65536 + b * 256 + c) d 8 (by omega)
    rw [show a * 16777216 + b * 65536 + c * 256 = 2 ^ 8 * (a * 65536 + b * 256 + c) by omega, this]
set_option maxRecDepth 100000 in
set_option maxHeartbeats 1600000 in
theorem written_any (n : Nat) (w : World) (hn : n < 4294967296) : Calls Tryz.prog 69 #[.int .u32 n] w fun r w' => r = .returned (.string ⟨(be4 n).toArray⟩) ∧ Below w.heap.size w w' := by
  have hz : (n : Int) < 4294967296 := by omega
  have hrow := heap_alloc_new w (.cells #[.int .u8 ((n : Int) / 16777216), .int .u8 ((n : Int) / 65536 % 256), .int .u8 ((n : Int) / 256 % 256), .int .u8 ((n : Int) % 256)] 5)
  have hcv : (convert 48 9 (.slice (some ⟨w.heap.size, 0, none⟩) 4 4)).run Tryz.prog (w.alloc (.cells #[.int .u8 ((n : Int) / 16777216), .int .u8 ((n : Int) / 65536 % 256), .int .u8 ((n : Int) / 256 % 256), .int .u8 ((n : Int) % 256)] 5)) = .ok (.string ⟨(be4 n).toArray⟩) (w.alloc (.cells #[.int .u8 ((n : Int) / 16777216), .int .u8 ((n : Int) / 65536 % 256), .int .u8 ((n : Int) / 256 % 256), .int .u8 ((n : Int) % 256)] 5)) :=
    run_convert_bytes_back (P := Tryz.prog) _ 48 9 5 ⟨w.heap.size, 0, none⟩ 4 (be4 n) Tryz.underlying48 Tryz.underlying5 Tryz.underlying9 (fun j hj => by
      have hadd : (⟨w.heap.size, 0, none⟩ : Addr).add j = ⟨w.heap.size, j, none⟩ := by unfold Addr.add; split <;> simp_all
      rw [hadd, cell_of_row _ _ j _ _ _ hrow]
      have h4 : j < 4 := by rw [be4_len] at hj; exact hj
      have e : ∀ m, (UInt8.ofNat (m % 256)).toNat = m % 256 := fun m => of_byte _ (Nat.mod_lt _ (by decide))
      simp only [be4_is]
      match j, h4 with
      | 0, _ => simp [e]; omega
      | 1, _ => simp [e]
      | 2, _ => simp [e]
      | 3, _ => simp [e])
  clear hrow
  go_enter Tryz.func69, Tryz.ntmps69
  go_wp2
  go_ret
  exact ⟨rfl, (Below.refl _ _).alloc (Nat.le_refl _) _⟩
set_option maxRecDepth 100000 in
set_option maxHeartbeats 1600000 in
theorem read_any (s : ByteArray) (w : World) (h : s.size = 4) : Calls Tryz.prog 101 #[.string s] w fun r w' => r = .returned (.int .u32 (num4 s.data.toList 0 : Nat)) ∧ Below w.heap.size w w' := by
  obtain ⟨x0, e0, l0, i0⟩ := byte_at s 0 (by omega) 0 rfl
  obtain ⟨x1, e1, l1, i1⟩ := byte_at s 1 (by omega) 1 rfl
  obtain ⟨x2, e2, l2, i2⟩ := byte_at s 2 (by omega) 2 rfl
  obtain ⟨x3, e3, l3, i3⟩ := byte_at s 3 (by omega) 3 rfl
  have HN : Hid (num4 s.data.toList 0 = x0 * 16777216 + x1 * 65536 + x2 * 256 + x3) := Lib.hid (by unfold num4; rw [e0, e1, e2, e3])
  obtain ⟨o1, o2, o3⟩ := or4 x0 x1 x2 x3 l0 l1 l2 l3
  rw [show ((x0 * 16777216 + x1 * 65536 : Nat) : Int) = (x0 : Int) * 16777216 + (x1 : Int) * 65536 by omega] at o1 o2
  rw [show ((x0 * 16777216 + x1 * 65536 + x2 * 256 : Nat) : Int) = (x0 : Int) * 16777216 + (x1 : Int) * 65536 + (x2 : Int) * 256 by omega] at o2 o3
  clear e0 e1 e2 e3 h
  go_enter Tryz.func101, Tryz.ntmps101
  go_wp2_with fail
  go_quiet (fail)
  rename_i nq
  have HB3 : Hid (Below w.heap.size w (w.drewN nq)) := Lib.hid ⟨rfl, rfl, rfl, Nat.le_refl _, fun _ _ => rfl⟩
  generalize w.drewN nq = w3 at HB3 ⊢
  go_wp2_with fail
  go_ret
  exact ⟨by rw [HN.out]; rfl, HB3.out⟩
end RF
end Go.Proofs.YtiggdojppfblkaaGreatDoor
end

section
/- Layer 5: the contracts of the program's sum, Pack. -/
namespace Go.Proofs.YtiggdojppfblkaaGreatDoor
open Go.RowKit Go.Lib Go.BigFrame
namespace RF
open HP HS RP OM RQ HCr
open HC (Env crc_any)

set_option maxRecDepth 100000 in
set_option maxHeartbeats 1600000 in
theorem sum_any (a b : List UInt8) (w : World) (he : Env w) (hm : a.length + b.length ≤ maxLen) :
    Calls Tryz.prog 70 #[txt a, txt b] w fun r w' => r = .returned (.int .u32 (crcL (a ++ b) : Nat)) ∧ w = w' := by
  unfold txt
  obtain ⟨TA, hTA⟩ : ∃ T : ByteArray, ⟨a.toArray⟩ = T := ⟨_, rfl⟩
  obtain ⟨TB, hTB⟩ : ∃ T : ByteArray, ⟨b.toArray⟩ = T := ⟨_, rfl⟩
  obtain ⟨TC, hTC⟩ : ∃ T : ByteArray, ⟨(a ++ b).toArray⟩ = T := ⟨_, rfl⟩
  have hcat : TA ++ TB = TC := by rw [← hTA, ← hTB, ← hTC]; exact bytes_app _ _
  have hcl : TA.size + TB.size ≤ 9223372036854775807 := by rw [← hTA, ← hTB, Lib.size_eq, Lib.size_eq]; unfold maxLen at hm; simpa using hm
  have hd : TC.data.toList = a ++ b := by rw [← hTC]
  have cC := crc_any TC w he (by rw [Lib.size_eq, hd, List.length_append]; exact hm)
  rw [hd] at cC
  have CC := Lib.hid cC
  rw [hTA, hTB]
  clear cC hd hTA hTB hTC hm he
  go_enter Tryz.func70, Tryz.ntmps70
  go_wp2_with (go_at_call 100; refine CC.out.mono ?_; rintro r w1 ⟨rfl, rfl⟩)
  go_ret
  exact ⟨rfl, rfl⟩
def packV (l : List UInt8) : Ending := .returned (.tuple #[txt (packT l), .int .i64 (packE l : Nat)])
set_option maxRecDepth 100000 in
set_option maxHeartbeats 1600000 in
theorem pack_any (l : List UInt8) (w : World) (he : Env w) (hm : l.length ≤ maxLen) :
    Calls Tryz.prog 36 #[txt l] w fun r w' => r = packV l ∧ Below w.heap.size w w' := by
  have hsz : (⟨l.toArray⟩ : ByteArray).size = l.length := by rw [Lib.size_eq]
  obtain ⟨T, hT⟩ : ∃ T : ByteArray, ⟨l.toArray⟩ = T := ⟨_, rfl⟩
  by_cases h : l.length ≤ MaxP
  · have e1 : packT l = packL l := by unfold packT; rw [if_pos h]
    have e2 : packE l = 0 := by unfold packE; rw [if_pos h]
    unfold MaxP at h
    obtain ⟨n, hn⟩ : ∃ n, l.length = n := ⟨_, rfl⟩
    obtain ⟨F, hF⟩ : ∃ F : List UInt8, be4 n = F := ⟨_, rfl⟩
    have hFl : F.length = 4 := by rw [← hF, be4_len]
    obtain ⟨c, hc⟩ : ∃ c, crcL (F ++ l) = c := ⟨_, rfl⟩
    obtain ⟨G, hG⟩ : ∃ G : List UInt8, be4 c = G := ⟨_, rfl⟩
    have hGl : G.length = 4 := by rw [← hG, be4_len]
    have hPL : packL l = F ++ G ++ l := by unfold packL; rw [hn, hF, hc, hG]
    obtain ⟨TF, hTF⟩ : ∃ T : ByteArray, ⟨F.toArray⟩ = T := ⟨_, rfl⟩
    obtain ⟨TG, hTG⟩ : ∃ T : ByteArray, ⟨G.toArray⟩ = T := ⟨_, rfl⟩
    obtain ⟨TFG, hTFG⟩ : ∃ T : ByteArray, ⟨(F ++ G).toArray⟩ = T := ⟨_, rfl⟩
    obtain ⟨TP, hTP⟩ : ∃ T : ByteArray, ⟨(F ++ G ++ l).toArray⟩ = T := ⟨_, rfl⟩
    have C1 : Hid (∀ W, Calls Tryz.prog 69 #[.int .u32 n] W fun r w' => r = .returned (.string TF) ∧ Below W.heap.size W w') := Lib.hid (fun W => by
      have h := written_any n W (by omega)
      rw [hF, hTF] at h
      exact h)
    have hcl := crcL_lt (F ++ l)
    rw [hc] at hcl
    have C2 : Hid (∀ W, Calls Tryz.prog 69 #[.int .u32 c] W fun r w' => r = .returned (.string TG) ∧ Below W.heap.size W w') := Lib.hid (fun W => by
      have h := written_any c W hcl
      rw [hG, hTG] at h
      exact h)
    have C3 : Hid (∀ W, Below w.heap.size w W → Calls Tryz.prog 70 #[.string TF, .string T] W fun r w' => r = .returned (.int .u32 c) ∧ Below W.heap.size W w') := Lib.hid (fun W hW => by
      have h := sum_any F l W (he.below hW) (by unfold maxLen; omega)
      unfold txt at h
      rw [hc, hTF, hT] at h
      exact h.mono fun r w' hh => ⟨hh.1, hh.2 ▸ Below.refl _ _⟩)
    have b2 : TF ++ TG = TFG := by rw [← hTF, ← hTG, ← hTFG]; exact bytes_app _ _
    have b3 : TFG ++ T = TP := by rw [← hTFG, ← hT, ← hTP]; exact bytes_app _ _
    have z1 : TF.size = 4 := by rw [← hTF, Lib.size_eq]; exact hFl
    have z2 : TG.size = 4 := by rw [← hTG, Lib.size_eq]; exact hGl
    have z3 : TFG.size = 8 := by rw [← hTFG, Lib.size_eq]; simp [hFl, hGl]
    have z4 : T.size = n := by rw [← hT, Lib.size_eq]; exact hn
    have hnz : ¬ (1048576 : Int) < n := by omega
    have hnz2 : (n : Int) < 4294967296 := by omega
    have hs1 : TF.size + TG.size ≤ 9223372036854775807 := by omega
    have hs2 : TFG.size + T.size ≤ 9223372036854775807 := by omega
    have HV : Hid (packV l = .returned (.tuple #[.string TP, .int .i64 0])) := Lib.hid (by unfold packV; rw [e1, e2, hPL]; unfold txt; rw [hTP]; rfl)
    unfold txt
    rw [hT]
    clear he hm hsz hT h e1 e2 hn hF hFl hc hG hGl hPL hTF hTG hTFG hTP hcl
    go_enter Tryz.func36, Tryz.ntmps36
    repeat (first | (go_at_call_of 69 (Value.int IntKind.u32 n); refine (C1.out _).mono ?_; rintro r w1 ⟨rfl, hb1⟩; simp only []; have HB1 := Lib.hid hb1; clear hb1) | (go_at_call_of 69 (Value.int IntKind.u32 c); refine (C2.out _).mono ?_; rintro r w2 ⟨rfl, hb2⟩; simp only []; have HB2 := Lib.hid hb2; clear hb2) | (go_at_call 70; refine (C3.out _ HB1.out).mono ?_; rintro r w3 ⟨rfl, hb3⟩; simp only []; have HB3 := Lib.hid (Below.trans HB1.out (hb3.mono HB1.out.size)); clear hb3) | go_skip | go_guarded | go_step | go_upon)
    go_ret2
    exact ⟨HV.out.symm, Below.trans HB3.out (HB2.out.mono HB3.out.size)⟩
  · have e1 : packT l = [] := by unfold packT; rw [if_neg h]
    have e2 : packE l = 32 := by unfold packE; rw [if_neg h]
    have HV : Hid (packV l = .returned (.tuple #[.string ⟨#[]⟩, .int .i64 32])) := Lib.hid (by unfold packV; rw [e1, e2]; rfl)
    unfold MaxP at h
    have hlz : ¬ (T.size : Int) ≤ 1048576 := by rw [← hT, hsz]; omega
    unfold maxLen at hm
    have hlm : (T.size : Int) ≤ 9223372036854775807 := by rw [← hT, hsz]; omega
    unfold txt
    rw [hT]
    clear he hm hsz hT h e1 e2
    go_enter Tryz.func36, Tryz.ntmps36
    go_wp2
    go_ret2
    exact ⟨by rw [HV.out]; rfl, Below.refl _ _⟩
end RF
end Go.Proofs.YtiggdojppfblkaaGreatDoor
end

section
/- Layer 5: the contracts of the program's Next, One. -/
namespace Go.Proofs.YtiggdojppfblkaaGreatDoor
open Go.RowKit Go.Lib Go.BigFrame
namespace RP
open HP HS
theorem num_sub (l : List UInt8) (k : Nat) : num4 ((l.drop k).take 4) 0 = num4 l k := by
  have e : ∀ j, j < 4 → ((l.drop k).take 4).getD j 0 = l.getD (k + j) 0 := fun j hj => by
    rw [List.getD_eq_getElem?_getD, List.getD_eq_getElem?_getD, List.getElem?_take_of_lt hj, List.getElem?_drop]
  unfold num4
  rw [e 0 (by decide), e (0 + 1) (by decide), e (0 + 2) (by decide), e (0 + 3) (by decide)]
  rfl
end RP
namespace RF
open HP HS RP OM RQ HCr
open HC (Env crc_any)

set_option maxRecDepth 100000 in
set_option maxHeartbeats 3200000 in
theorem next_any (l : List UInt8) (w : World) (he : Env w) (hm : l.length ≤ 140737488355328) :
    Calls Tryz.prog 73 #[txt l] w fun r w' => r = nextV l ∧ Below w.heap.size w w' := by
  obtain ⟨S, hS⟩ : ∃ S : ByteArray, ⟨l.toArray⟩ = S := ⟨_, rfl⟩
  have hSd : S.data.toList = l := by rw [← hS]
  obtain ⟨z, hz⟩ : ∃ z, l.length = z := ⟨_, rfl⟩
  have hSz : S.size = z := by rw [Lib.size_eq, hSd]; exact hz
  unfold txt
  rw [hS]
  by_cases h8 : z < 8
  · have hV : nextL l = (50, [], []) := by unfold nextL; rw [if_pos (by omega)]
    have HV : Hid (nextV l = .returned (.tuple #[.string ⟨#[]⟩, .string ⟨#[]⟩, .int .i64 50])) := Lib.hid (by unfold nextV; rw [hV]; rfl)
    have h8z : (z : Int) < 8 := by omega
    clear hV hS hSd hz he
    go_enter Tryz.func73, Tryz.ntmps73
    repeat (first | go_skip | go_guarded | go_step | go_upon)
    go_ret3
    exact ⟨by rw [HV.out]; rfl, Below.refl _ _⟩
  · obtain ⟨n, hn⟩ : ∃ n, num4 l 0 = n := ⟨_, rfl⟩
    have hnl : n < 4294967296 := by rw [← hn]; exact num_lt l 0
    obtain ⟨m, hm4⟩ : ∃ m, num4 l 4 = m := ⟨_, rfl⟩
    have hml : m < 4294967296 := by rw [← hm4]; exact num_lt l 4
    obtain ⟨F, hF⟩ : ∃ F, l.take 4 = F := ⟨_, rfl⟩
    obtain ⟨M, hM⟩ : ∃ M, (l.drop 4).take 4 = M := ⟨_, rfl⟩
    obtain ⟨B, hB⟩ : ∃ B, l.drop 8 = B := ⟨_, rfl⟩
    obtain ⟨TF, hTF⟩ : ∃ T : ByteArray, ⟨F.toArray⟩ = T := ⟨_, rfl⟩
    obtain ⟨TM, hTM⟩ : ∃ T : ByteArray, ⟨M.toArray⟩ = T := ⟨_, rfl⟩
    obtain ⟨TB, hTB⟩ : ∃ T : ByteArray, ⟨B.toArray⟩ = T := ⟨_, rfl⟩
    have hFl : F.length = 4 := by rw [← hF, List.length_take]; omega
    have hMl : M.length = 4 := by rw [← hM, List.length_take, List.length_drop]; omega
    obtain ⟨q, hq⟩ : ∃ q, z = q + 8 := ⟨z - 8, by omega⟩
    have hBl : B.length = q := by rw [← hB, List.length_drop]; omega
    have hTBd : TB.data.toList = B := by rw [← hTB]
    have hTBz : TB.size = q := by rw [Lib.size_eq, hTBd]; exact hBl
    have s1 := sl_to S 4 4 rfl (by omega)
    have s2 := sl_mid S 4 8 4 8 rfl rfl (by omega) (by omega)
    have s3 := sl_from S 8 8 rfl (by omega)
    rw [hSd, hF, hTF] at s1
    rw [hSd, show 8 - 4 = 4 from rfl, hM, hTM] at s2
    rw [hSd, hB, hTB] at s3
    have C1 : Hid (∀ W, Calls Tryz.prog 101 #[.string TF] W fun r w' => r = .returned (.int .u32 n) ∧ Below W.heap.size W w') := Lib.hid (fun W => by
      have h := read_any TF W (by rw [← hTF, Lib.size_eq]; exact hFl)
      have e : TF.data.toList = F := by rw [← hTF]
      have e2 := num_sub l 0
      rw [List.drop_zero, hF, hn] at e2
      rw [e, e2] at h
      exact h)
    have C2 : Hid (∀ W, Calls Tryz.prog 101 #[.string TM] W fun r w' => r = .returned (.int .u32 m) ∧ Below W.heap.size W w') := Lib.hid (fun W => by
      have h := read_any TM W (by rw [← hTM, Lib.size_eq]; exact hMl)
      have e : TM.data.toList = M := by rw [← hTM]
      have e2 := num_sub l 4
      rw [hM, hm4] at e2
      rw [e, e2] at h
      exact h)
    have h8z : ¬ (z : Int) < 8 := by omega
    have hnz : (n : Int) < 4294967296 := by omega
    have hmz : (m : Int) < 4294967296 := by omega
    have HC := Lib.hid hq
    clear hq
    go_enter Tryz.func73, Tryz.ntmps73
    repeat (first | go_skip | go_guarded | go_step | go_upon)
    have D2 := Lib.hid (reg_of (w := w) (fun W _ => C2.out W))
    with_reducible refine wp_region_quiet_below (by kernel_rfl) (by kernel_rfl) ?_
    repeat (go_big_quiet_step (first | (go_at_call 101; exact D2.out _ _)))
    refine wpQuiet_nil ?_
    intro _ hw'
    obtain ⟨⟨dq, osq⟩, hw''⟩ := hw'
    subst hw''
    have HB1 : Hid (Below w.heap.size w (Go.Sort.grow (redrawn w dq) osq)) := Lib.hid (below_regrown w dq osq)
    generalize Go.Sort.grow (redrawn w dq) osq = w1 at HB1 ⊢
    by_cases h1 : MaxP < n
    · have hV : nextL l = (32, [], []) := by unfold nextL; rw [if_neg (by omega), hn, if_pos h1]
      have HV : Hid (nextV l = .returned (.tuple #[.string ⟨#[]⟩, .string ⟨#[]⟩, .int .i64 32])) := Lib.hid (by unfold nextV; rw [hV]; rfl)
      have h1z : (1048576 : Int) < n := by unfold MaxP at h1; omega
      clear hV hS hSd hz he hn hnl hm4 hml hF hM hB hTF hTM hTB hFl hMl hBl hTBd hTBz
      repeat (first | (go_at_call_of 101 (Value.string TF); refine (C1.out _).mono ?_; rintro r w2 ⟨rfl, hb2⟩; simp only []; have HB2 := Lib.hid (Below.trans HB1.out (hb2.mono HB1.out.size)); clear hb2) | go_skip | go_guarded | go_step | go_upon)
      go_ret3
      exact ⟨by rw [HV.out]; rfl, HB2.out⟩
    · have h1z : ¬ (1048576 : Int) < n := by unfold MaxP at h1; omega
      by_cases h2 : q < n
      · have hV : nextL l = (50, [], []) := by unfold nextL; rw [if_neg (by omega), hn, if_neg h1, hz, if_pos (by have := HC.out; omega)]
        have HV : Hid (nextV l = .returned (.tuple #[.string ⟨#[]⟩, .string ⟨#[]⟩, .int .i64 50])) := Lib.hid (by unfold nextV; rw [hV]; rfl)
        have h2z : (q : Int) < n := by omega
        clear hV hS hSd hz he hn hnl hm4 hml hF hM hB hTF hTM hTB hFl hMl hBl hTBd
        repeat (first | (go_at_call_of 101 (Value.string TF); refine (C1.out _).mono ?_; rintro r w2 ⟨rfl, hb2⟩; simp only []; have HB2 := Lib.hid (Below.trans HB1.out (hb2.mono HB1.out.size)); clear hb2 HB1; have HB1 := HB2) | go_skip | go_guarded | go_step | go_upon)
        go_ret3
        exact ⟨by rw [HV.out]; rfl, HB2.out⟩
      · have h2z : ¬ (q : Int) < n := by omega
        obtain ⟨P, hP⟩ : ∃ P, B.take n = P := ⟨_, rfl⟩
        obtain ⟨R, hR⟩ : ∃ R, B.drop n = R := ⟨_, rfl⟩
        obtain ⟨TP, hTP⟩ : ∃ T : ByteArray, ⟨P.toArray⟩ = T := ⟨_, rfl⟩
        obtain ⟨TR, hTR⟩ : ∃ T : ByteArray, ⟨R.toArray⟩ = T := ⟨_, rfl⟩
        have s4 := sl_to TB n n rfl (by omega)
        have s5 := sl_from TB n n rfl (by omega)
        rw [hTBd, hP, hTP] at s4
        rw [hTBd, hR, hTR] at s5
        obtain ⟨c, hc⟩ : ∃ c, crcL (F ++ P) = c := ⟨_, rfl⟩
        have hcz : (c : Int) < 4294967296 := by have := crcL_lt (F ++ P); omega
        have C3 : Hid (∀ W, Below w.heap.size w W → Calls Tryz.prog 70 #[.string TF, .string TP] W fun r w' => r = .returned (.int .u32 c) ∧ W = w') := Lib.hid (fun W hW => by
          have h := sum_any F P W (he.below hW) (by rw [← hP, List.length_take]; unfold maxLen; omega)
          unfold txt at h
          rw [hc, hTF, hTP] at h
          exact h)
        have hB2 : (l.drop 8).take n = P := by rw [hB, hP]
        have hR2 : l.drop (8 + n) = R := by rw [← hR, ← hB, List.drop_drop]
        by_cases hmc : m = c
        · have HV : Hid (nextV l = .returned (.tuple #[.string TP, .string TR, .int .i64 0])) := Lib.hid (by
            unfold nextV nextL
            rw [if_neg (by omega), hn, if_neg h1, hz, if_neg (by have := HC.out; omega), hm4, hF, hB2, hR2, hc, if_pos hmc, ← hTP, ← hTR]
            rfl)
          have hmcz : ((c : Int) != (m : Int)) = false := by rw [hmc]; simp
          clear hS hSd hz he hn hnl hm4 hml hF hM hB hTF hTM hTB hFl hMl hBl hTBd hP hR hTP hTR hc hB2 hR2 hmc
          repeat (first | (go_at_call_of 101 (Value.string TF); refine (C1.out _).mono ?_; rintro r w2 ⟨rfl, hb2⟩; simp only []; have HB2 := Lib.hid (Below.trans HB1.out (hb2.mono HB1.out.size)); clear hb2 HB1; have HB1 := HB2) | (go_at_call 70; refine (C3.out _ HB1.out).mono ?_; rintro r w2 ⟨rfl, rfl⟩; simp only []) | go_skip | go_guarded | go_step | go_upon)
          go_quiet (fail)
          rename_i nq
          have HB3 : Hid (Below w.heap.size w (w2.drewN nq)) := Lib.hid ⟨HB1.out.os, HB1.out.tape, HB1.out.output, HB1.out.size, HB1.out.block⟩
          generalize w2.drewN nq = w3 at HB3 ⊢
          repeat (first | go_skip | go_guarded | go_step | go_upon)
          go_ret3
          exact ⟨HV.out.symm, HB3.out⟩
        · have HV : Hid (nextV l = .returned (.tuple #[.string ⟨#[]⟩, .string ⟨#[]⟩, .int .i64 51])) := Lib.hid (by
            unfold nextV nextL
            rw [if_neg (by omega), hn, if_neg h1, hz, if_neg (by have := HC.out; omega), hm4, hF, hB2, hc, if_neg hmc]
            rfl)
          have hmcz : ((c : Int) != (m : Int)) = true := by simp; omega
          clear hS hSd hz he hn hnl hm4 hml hF hM hB hTF hTM hTB hFl hMl hBl hTBd hP hR hTP hTR hc hB2 hR2 hmc
          repeat (first | (go_at_call_of 101 (Value.string TF); refine (C1.out _).mono ?_; rintro r w2 ⟨rfl, hb2⟩; simp only []; have HB2 := Lib.hid (Below.trans HB1.out (hb2.mono HB1.out.size)); clear hb2 HB1; have HB1 := HB2) | (go_at_call 70; refine (C3.out _ HB1.out).mono ?_; rintro r w2 ⟨rfl, rfl⟩; simp only []) | go_skip | go_guarded | go_step | go_upon)
          go_ret3
          exact ⟨by rw [HV.out]; rfl, HB1.out⟩
set_option maxRecDepth 100000 in
set_option maxHeartbeats 1600000 in
theorem one_any (l : List UInt8) (w : World) (he : Env w) (hm : l.length ≤ 140737488355328) :
    Calls Tryz.prog 41 #[txt l] w fun r w' => r = oneV l ∧ Below w.heap.size w w' := by
  have cN := next_any l w he hm
  unfold nextV at cN
  unfold txt at cN ⊢
  rcases next_cases l with ⟨p, r, hn⟩ | ⟨e, hn, he⟩
  · rw [hn] at cN
    simp only at cN
    cases r with
    | nil =>
      have HV : Hid (oneV l = .returned (.tuple #[txt p, .int .i64 0])) := Lib.hid (by unfold oneV oneL; rw [hn]; rfl)
      have CN := Lib.hid cN
      clear cN hn he
      go_enter Tryz.func41, Tryz.ntmps41
      repeat (first | (go_at_call 73; refine CN.out.mono ?_; rintro r w1 ⟨rfl, hb1⟩; simp only []; have HB1 := Lib.hid hb1; clear hb1) | go_skip | go_guarded | go_step | go_upon)
      go_ret2
      exact ⟨HV.out.symm, HB1.out⟩
    | cons x r =>
      have HV : Hid (oneV l = .returned (.tuple #[.string ⟨#[]⟩, .int .i64 32])) := Lib.hid (by unfold oneV oneL; rw [hn]; rfl)
      have CN := Lib.hid cN
      obtain ⟨T, hT⟩ : ∃ T : ByteArray, ⟨(x :: r).toArray⟩ = T := ⟨_, rfl⟩
      have hTe : T.toList.isEmpty = false := by rw [← hT, Lib.toList_data]; rfl
      rw [hT] at CN
      clear cN hn hT he
      go_enter Tryz.func41, Tryz.ntmps41
      repeat (first | (go_at_call 73; refine CN.out.mono ?_; rintro r w1 ⟨rfl, hb1⟩; simp only []; have HB1 := Lib.hid hb1; clear hb1) | go_skip | go_guarded | go_step | go_upon)
      go_ret2
      exact ⟨by rw [HV.out]; rfl, HB1.out⟩
  · rw [hn] at cN
    simp only at cN
    have HV : Hid (oneV l = .returned (.tuple #[.string ⟨#[]⟩, .int .i64 ((e + 1 : Nat) : Int)])) := Lib.hid (by unfold oneV oneL; rw [hn]; rfl)
    obtain ⟨z, hz⟩ : ∃ z : Int, ((e + 1 : Nat) : Int) = z := ⟨_, rfl⟩
    have hz0 : (z != 0) = true := by simp; omega
    have hz1 : z ≠ 0 := by omega
    rw [hz] at HV cN
    have CN := Lib.hid cN
    clear cN hn hz
    go_enter Tryz.func41, Tryz.ntmps41
    repeat (first | (go_at_call 73; refine CN.out.mono ?_; rintro r w1 ⟨rfl, hb1⟩; simp only []; have HB1 := Lib.hid hb1; clear hb1) | go_skip | go_guarded | go_step | go_upon)
    go_ret2
    exact ⟨HV.out.symm, HB1.out⟩
end RF
end Go.Proofs.YtiggdojppfblkaaGreatDoor
end

section
/- Layer 9: the contract of the program's Encode. -/
namespace Go.Proofs.YtiggdojppfblkaaGreatDoor
open Go.RowKit Go.Lib Go.BigFrame
namespace AR
open OM TP TM TG TW AP TR

/-- What is asked of memory: Go's tables, and the check sum's. -/
structure Env (w : World) : Prop where
  nf : NF.Env w
  hc : HC.Env w
theorem Env.below {w w' : World} (h : Env w) (hb : Below w.heap.size w w') : Env w' := ⟨h.nf.below hb, h.hc.below hb⟩
theorem new_has (w : World) (B : Nat) (hB : B ≤ w.heap.size) : AW.Has B w.heap.size [] (w.alloc (.cells #[.pointer none, .slice none 0 0] 61)) :=
  .inl ⟨hB, .slice none 0 0, heap_alloc_new w _, World.ownsRowF_of (World.ownsRow_nil _ _ _ _), by simp [Value.ownBlock]⟩
theorem pack_ok {a : Ar} (h : RightA a) (hf : FitA a) : RF.packV (payL a) = .returned (.tuple #[txt (RP.packL (payL a)), .int .i64 0]) := by
  have hl := pay_len h hf
  unfold RF.packV RQ.packT RQ.packE
  rw [if_pos hl, if_pos hl]
  rfl
theorem pay_ne (a : Ar) : payL a ≠ [] := by
  unfold payL CP.textS
  intro e
  have := congrArg List.length e
  simp at this
  exact CP.nm_ne _ this.1
set_option maxRecDepth 100000 in
set_option maxHeartbeats 6400000 in
theorem encode_any (a : Ar) (ao : Option Addr) (ca : Nat) (so : Option Addr) (sc : Nat) (w : World) (he : Env w) (h : ArAt w a ao ca so) :
    Calls Tryz.prog 15 #[arVal a ao ca so sc] w fun r w' => r = .returned (.tuple #[txt (encL a).1, .int .i64 ((encL a).2 : Nat)]) ∧ Below w.heap.size w w' := by
  have CR : Hid (∀ W, Below w.heap.size w W → Calls Tryz.prog 34 #[arVal a ao ca so sc] W fun r w' => r = .returned (.bool (rightA a)) ∧ Below W.heap.size W w') := Lib.hid (fun W hW => right_any a ao ca so sc W (he.nf.below hW) (h.below hW))
  have CA : Hid (RightA a → ∀ (W0 : World) (b : Nat) (W : World), Below w.heap.size w W0 → Below W0.heap.size W0 W → AW.Has W0.heap.size b [] W → Calls Tryz.prog 35 #[.pointer (some ⟨b, 0, none⟩), arVal a ao ca so sc] W (AW.WPost W0.heap.size b (payL a) W)) := Lib.hid (fun hr W0 b W h0 h1 h2 =>
    AW.archive_any W0 b a ao ca so sc W hr h.fit (h.tree.lay.below h0) (h.stamps.lay.below h0) h1 h2)
  have HFit := Lib.hid h.fit
  have HE := Lib.hid he
  unfold arVal txt at CR CA ⊢
  obtain ⟨P, hP⟩ : ∃ P : ByteArray, ⟨a.pair.toArray⟩ = P := ⟨_, rfl⟩
  obtain ⟨n, hn⟩ : ∃ n, a.tree.length = n := ⟨_, rfl⟩
  obtain ⟨m, hm⟩ : ∃ n, a.stamps.length = n := ⟨_, rfl⟩
  obtain ⟨s, hs⟩ : ∃ n, a.serial = n := ⟨_, rfl⟩
  obtain ⟨w1, hw1⟩ : ∃ w1, w.alloc (.cells #[.string P, .int .i64 s, .slice ao n ca, .slice so m sc] 35) = w1 := ⟨_, rfl⟩
  have b1 : Below w.heap.size w w1 := by rw [← hw1]; exact (Below.refl _ _).alloc (Nat.le_refl _) _
  have r1 : w1.heap[w.heap.size]? = some (.cells #[.string P, .int .i64 s, .slice ao n ca, .slice so m sc] 35 (0, 0)) := by rw [← hw1]; exact heap_alloc_new w _
  obtain ⟨x0, x1, x2, x3⟩ := box4 w (.string P) (.int .i64 s) (.slice ao n ca) (.slice so m sc) 35
  rw [hw1] at x0 x1 x2 x3
  have B1 := Lib.hid b1
  have R1 := Lib.hid r1
  have hlt1 : w.heap.size < w1.heap.size := by rw [← hw1]; simp
  rw [hP, hn, hm, hs] at CR CA
  rw [hP, hn, hm, hs]
  cases hr : rightA a with
  | false =>
    have HV : Hid (encL a = ([], 90)) := Lib.hid (by unfold encL; rw [hr]; rfl)
    rw [hr] at CR
    clear hP hn hm hs hr h he b1 r1
    go_enter Tryz.func15, Tryz.ntmps15
    repeat (first | (go_at_call 34; refine (CR.out _ B1.out).mono ?_; rintro r w2 ⟨rfl, hb⟩; simp only []; have B2 := Lib.hid (Below.trans B1.out (hb.mono B1.out.size)); clear hb) | go_skip | go_guarded | go_step | go_upon)
    go_ret2
    exact ⟨by rw [HV.out]; rfl, B2.out⟩
  | true =>
    have hR := (right_iff a).1 hr
    have HR := Lib.hid hR
    have HV : Hid (encL a = (RP.packL (payL a), 0)) := Lib.hid (by unfold encL; rw [hr]; rfl)
    rw [hr] at CR
    clear hP hn hm hs hr h he b1 r1 hR
    go_enter Tryz.func15, Tryz.ntmps15
    repeat (first | (go_at_call 34; fail) | go_skip | go_guarded | go_step | go_upon)
    refine (CR.out _ B1.out).mono ?_
    rintro r w2 ⟨rfl, hb⟩
    simp only []
    have r2 := (hb.block _ hlt1).trans R1.out
    have B2 := Lib.hid (Below.trans B1.out (hb.mono B1.out.size))
    have hlt2 : w.heap.size < w2.heap.size := Nat.lt_of_lt_of_le hlt1 hb.size
    have hHas := new_has w2 w2.heap.size (Nat.le_refl _)
    obtain ⟨w3, hw3⟩ : ∃ w3, w2.alloc (.cells #[.pointer none, .slice none 0 0] 61) = w3 := ⟨_, rfl⟩
    have b3 : Below w2.heap.size w2 w3 := by rw [← hw3]; exact (Below.refl _ _).alloc (Nat.le_refl _) _
    rw [hw3] at hHas
    have r3 := (b3.block _ hlt2).trans r2
    have y0 : w3.cell? ⟨w.heap.size, 0, none⟩ = some (.string P) := by rw [cell_of_row _ _ 0 _ _ _ r3]; rfl
    have y1 : w3.cell? ⟨w.heap.size, 1, none⟩ = some (.int .i64 s) := by rw [cell_of_row _ _ 1 _ _ _ r3]; rfl
    have y2 : w3.cell? ⟨w.heap.size, 2, none⟩ = some (.slice ao n ca) := by rw [cell_of_row _ _ 2 _ _ _ r3]; rfl
    have y3 : w3.cell? ⟨w.heap.size, 3, none⟩ = some (.slice so m sc) := by rw [cell_of_row _ _ 3 _ _ _ r3]; rfl
    have HB3 := Lib.hid b3
    have HHas := Lib.hid hHas
    clear hb r2 hHas b3 r3 x0 x1 x2 x3
    repeat (first | (go_at_call 35; fail) | go_skip | go_guarded | go_step | go_upon)
    refine (CA.out HR.out w2 w2.heap.size w3 B2.out HB3.out HHas.out).mono ?_
    rintro r w4 ⟨rfl, hw4⟩
    simp only []
    have HW4 := Lib.hid hw4
    clear hw4 y0 y1 y2 y3
    repeat (first | (go_at_call 37; fail) | go_skip | go_guarded | go_step | go_upon)
    refine (AW.string_any w2.heap.size w2.heap.size (payL a) w4 HW4.out.has (pay_ne a)).mono ?_
    rintro r w5 ⟨rfl, hb5⟩
    simp only []
    have B5 : Hid (Below w.heap.size w w5) := Lib.hid (B2.out.trans ((HB3.out.trans (HW4.out.below.trans hb5)).mono B2.out.size))
    have CP2 := RF.pack_any (payL a) w5 (HE.out.below B5.out).hc (by have := pay_len HR.out HFit.out; unfold RP.MaxP at this; unfold maxLen; omega)
    rw [pack_ok HR.out HFit.out] at CP2
    unfold RQ.txt txt at CP2
    have CP3 := Lib.hid CP2
    obtain ⟨Q, hQ⟩ : ∃ Q : ByteArray, ⟨(payL a).toArray⟩ = Q := ⟨_, rfl⟩
    obtain ⟨R, hR⟩ : ∃ Q : ByteArray, ⟨(RP.packL (payL a)).toArray⟩ = Q := ⟨_, rfl⟩
    have HV2 : Hid (encL a = (RP.packL (payL a), 0) ∧ (⟨(RP.packL (payL a)).toArray⟩ : ByteArray) = R) := Lib.hid ⟨HV.out, hR⟩
    rw [hQ, hR] at CP3
    rw [hQ]
    clear hb5 CP2 hQ hR
    repeat (first | (go_at_call 36; refine CP3.out.mono ?_; rintro r w6 ⟨rfl, hb⟩; simp only []; have B6 := Lib.hid (Below.trans B5.out (hb.mono B5.out.size)); clear hb) | go_skip | go_guarded | go_step | go_upon)
    go_ret2
    exact ⟨by rw [HV2.out.1]; simp only []; rw [HV2.out.2]; rfl, B6.out⟩
end AR
end Go.Proofs.YtiggdojppfblkaaGreatDoor
end

section
/- Layer 9: the contract of the program's Decode. -/
namespace Go.Proofs.YtiggdojppfblkaaGreatDoor
open Go.RowKit Go.Lib Go.BigFrame
namespace AD
open OM TP TM TG TW TR AP AR FP

theorem num_fit (r : Rd) : (rNum r).1 < 2 ^ 63 := by
  unfold rNum
  by_cases h1 : r.2 = 0
  · rw [if_neg (by simp [h1])]
    by_cases h2 : (CP.rd 0 0 r.1).2.2 = 0
    · rw [if_neg (by simp [h2])]
      exact (CR.rd_fits (l := r.1) (x := (CP.rd 0 0 r.1).1) (wd := (CP.rd 0 0 r.1).2.1) (e := (CP.rd 0 0 r.1).2.2) rfl).2.1
    · rw [if_pos h2]
      show 0 < 2 ^ 63
      decide
  · rw [if_pos h1]
    show 0 < 2 ^ 63
    decide
theorem txt_fit (most : Int) (r : Rd) : (rTxt most r).1.length ≤ r.1.length := by
  unfold rTxt
  by_cases h1 : r.2 = 0
  · rw [if_neg (by simp [h1])]
    by_cases h2 : (CP.cnt r.1 most 1).2.2 = 0
    · rw [if_neg (by simp [h2])]
      simp only [List.length_take, List.length_drop]
      omega
    · rw [if_pos h2]
      exact Nat.zero_le _
  · rw [if_pos h1]
    exact Nat.zero_le _
structure NodeFit (m : Nat) (n : Nd) (s : Sm) : Prop where
  path : n.path.length ≤ m
  stamp : FitS s
theorem node_fit (r : Rd) : NodeFit r.1.length (rNode r).1.1 (rNode r).1.2 := by
  refine ⟨txt_fit 400 r, ?_, ?_, ?_⟩
  · have := num_fit (rTxt 64 (rNum (rNum (rTxt 400 r).2).2).2).2
    unfold Fits rNode
    simp only []
    omega
  · have := num_fit (rNum (rTxt 64 (rNum (rNum (rTxt 400 r).2).2).2).2).2
    unfold Fits rNode
    simp only []
    omega
  · have := num_fit (rNum (rNum (rTxt 64 (rNum (rNum (rTxt 400 r).2).2).2).2).2).2
    unfold Fits rNode
    simp only []
    omega
theorem nodes_fit : ∀ (k : Nat) (r : Rd), (∀ n ∈ (rNodes k r).1, n.path.length ≤ r.1.length) ∧ ∀ s ∈ (rNodes k r).2.1, FitS s
  | 0, r => ⟨fun n hn => by simp [rNodes] at hn, fun s hs => by simp [rNodes] at hs⟩
  | k + 1, r => by
    obtain ⟨h1, h2⟩ := nodes_fit k r
    have hl := CR.nodes_left k r
    obtain ⟨f1, f2⟩ := node_fit (rNodes k r).2.2
    rw [rNodes]
    refine ⟨fun n hn => ?_, fun s hs => ?_⟩
    · rcases List.mem_append.1 hn with h | h
      · exact h1 n h
      · rw [List.mem_singleton] at h
        rw [h]
        exact Nat.le_trans f1 hl
    · rcases List.mem_append.1 hs with h | h
      · exact h2 s h
      · rw [List.mem_singleton] at h
        rw [h]
        exact f2
structure ReadFit (m : Nat) (a : Ar) : Prop where
  fit : FitA a
  pair : a.pair.length ≤ m
  tree : a.tree.length ≤ 1000
  path : ∀ n ∈ a.tree, n.path.length ≤ m
  stamps : a.stamps.length ≤ 1000
theorem zero_fit (m : Nat) : ReadFit m zeroA := ⟨⟨(by decide : (0 : Int) < 9223372036854775808), fun s hs => by simp [zeroA] at hs⟩, Nat.zero_le _, Nat.zero_le _, fun n hn => by simp [zeroA] at hn, Nat.zero_le _⟩
theorem read_fit (p : List UInt8) : ReadFit p.length (readA p).1 := by
  unfold readA
  simp only []
  by_cases hv : (rTxt 8 (p, 0)).1 = ver
  · rw [if_pos hv]
    have l1 := CR.txt_left 8 (p, 0)
    have l2 := CR.txt_left 64 (rTxt 8 (p, 0)).2
    have l3 := CR.num_left (rTxt 64 (rTxt 8 (p, 0)).2).2
    have l4 := CR.cnt_left 1000 8 (rNum (rTxt 64 (rTxt 8 (p, 0)).2).2).2
    have p1 := txt_fit 64 (rTxt 8 (p, 0)).2
    have s1 := num_fit (rTxt 64 (rTxt 8 (p, 0)).2).2
    have n1 := CR.cnt_most 1000 8 (rNum (rTxt 64 (rTxt 8 (p, 0)).2).2).2 (by decide)
    obtain ⟨f1, f2⟩ := nodes_fit (rCnt 1000 8 (rNum (rTxt 64 (rTxt 8 (p, 0)).2).2).2).1 (rCnt 1000 8 (rNum (rTxt 64 (rTxt 8 (p, 0)).2).2).2).2
    obtain ⟨g1, g2⟩ := CR.nodes_len (rCnt 1000 8 (rNum (rTxt 64 (rTxt 8 (p, 0)).2).2).2).1 (rCnt 1000 8 (rNum (rTxt 64 (rTxt 8 (p, 0)).2).2).2).2
    simp only [] at l1
    refine ⟨⟨?_, f2⟩, Nat.le_trans p1 l1, ?_, fun n hn => ?_, ?_⟩
    · unfold Fits
      simp only []
      omega
    · show (rNodes _ _).1.length ≤ 1000
      rw [g1]
      omega
    · have := f1 n hn
      omega
    · show (rNodes _ _).2.1.length ≤ 1000
      rw [g2]
      omega
  · rw [if_neg hv]
    exact zero_fit _
theorem wide_own {w : World} {B n : Nat} {v : Value} {ts : List Nd} (h : w.ownsRow B 25 4 v n (nodesC ts)) (hn : n = ts.length) (hp : ∀ x ∈ ts, x.path.length ≤ maxLen) : ∃ ao ca, v = .slice ao ts.length ca ∧ Wide w ao ca ts := by
  subst hn
  obtain ⟨ao, ca, hv, hl⟩ := lay_own h
  subst hv
  rcases h.2 with ⟨e, h0⟩ | ⟨g, cap, cur, e, hg, hrow, hnc, hcm, _⟩
  · injection e with e1 e2 e3
    exact ⟨ao, ca, rfl, ⟨hl, fun _ => e3, by omega, hp, by unfold maxLen; omega⟩⟩
  · injection e with e1 e2 e3
    subst e3
    exact ⟨ao, ca, rfl, ⟨hl, fun e0 => by (rw [e1] at e0; cases e0), hnc, hp, by omega⟩⟩
theorem widem_own {w : World} {B n : Nat} {v : Value} {us : List Sm} (h : w.ownsRow B 67 3 v n (smsC us)) (hn : n = us.length) : ∃ ao ca, v = .slice ao us.length ca ∧ WideM w ao us := by
  subst hn
  obtain ⟨ao, ca, hv, hl⟩ := laym_own h
  subst hv
  exact ⟨ao, ca, rfl, hl, owns_len h⟩
theorem kinds_no {W : World} {b s n g : Nat} {e t : TypeId} {v : Value} {x : List Value} {cs : Array Value} {fz : Nat × Nat} (h : W.ownsRow b e s v n x) (hr : W.heap[g]? = some (.cells cs t fz)) (hne : t ≠ e) (hg : v.ownBlock = some g) : False := by
  obtain ⟨c, f, h'⟩ := owns_kind h g hg
  rw [hr] at h'
  injection h' with h'
  injection h' with _ e2
  exact hne e2
def DecPost (l : List UInt8) (w : World) (r : Ending) (w' : World) : Prop :=
  ∃ vt vs, r = .returned (.tuple #[.agg #[txt (decL l).1.pair, .int .i64 (decL l).1.serial, vt, vs], .int .i64 ((decL l).2 : Nat)]) ∧ w'.ownsRow w.heap.size 25 4 vt (decL l).1.tree.length (nodesC (decL l).1.tree) ∧ w'.ownsRow w.heap.size 67 3 vs (decL l).1.stamps.length (smsC (decL l).1.stamps) ∧ Below w.heap.size w w'
theorem DecPost.bad {l : List UInt8} {w w' : World} (h : decL l = (zeroA, 90)) (hb : Below w.heap.size w w') : DecPost l w (.returned (.tuple #[.agg #[.string ⟨#[]⟩, .int .i64 0, .slice none 0 0, .slice none 0 0], .int .i64 90])) w' :=
  ⟨.slice none 0 0, .slice none 0 0, by rw [h]; rfl, by rw [h]; exact World.ownsRow_nil _ _ _ _, by rw [h]; exact World.ownsRow_nil _ _ _ _, hb⟩
set_option maxRecDepth 100000 in
set_option maxHeartbeats 6400000 in
theorem decode_any (l : List UInt8) (w : World) (he : Env w) (hl : l.length ≤ 140737488355328) :
    Calls Tryz.prog 21 #[txt l] w (DecPost l w) := by
  obtain ⟨rs, hrs⟩ : ∃ rs, w.heap.size = rs := ⟨_, rfl⟩
  have HRS := Lib.hid hrs
  obtain ⟨w1, hw1⟩ : ∃ w1, w.alloc (.cells #[.string ⟨#[]⟩, .int .i64 0, .slice none 0 0, .slice none 0 0] 35) = w1 := ⟨_, rfl⟩
  have b1 : Below w.heap.size w w1 := by rw [← hw1]; exact (Below.refl _ _).alloc (Nat.le_refl _) _
  have r1 : w1.heap[rs]? = some (.cells #[.string ⟨#[]⟩, .int .i64 0, .slice none 0 0, .slice none 0 0] 35 (0, 0)) := by rw [← hw1, ← hrs]; exact heap_alloc_new w _
  have c1 := RF.one_any l w1 (he.below b1).hc hl
  have HE := Lib.hid he
  have B1 := Lib.hid b1
  have R1 := Lib.hid r1
  have hlt1 : rs < w1.heap.size := (Array.getElem?_eq_some_iff.1 r1).1
  obtain ⟨z, q, hz⟩ : ∃ z q, RP.oneL l = (z, q) := ⟨_, _, rfl⟩
  have HZ := Lib.hid hz
  unfold RQ.oneV RQ.txt at c1
  rw [hz] at c1
  simp only [] at c1
  unfold txt
  obtain ⟨S, hS⟩ : ∃ S : ByteArray, ⟨l.toArray⟩ = S := ⟨_, rfl⟩
  obtain ⟨Q, hQ⟩ : ∃ S : ByteArray, ⟨q.toArray⟩ = S := ⟨_, rfl⟩
  have HQ := Lib.hid hQ
  rw [hS, hQ] at c1
  rw [hS]
  have C1 := Lib.hid c1
  have HLT1 := Lib.hid hlt1
  clear c1 b1 r1 hz hS hQ he hlt1
  go_enter Tryz.func21, Tryz.ntmps21
  repeat (first | (go_at_call 41; fail) | go_skip | go_guarded | go_step | go_upon)
  refine C1.out.mono ?_
  rintro r w2 ⟨rfl, hb2⟩
  simp only []
  have R2 := Lib.hid ((hb2.block _ HLT1.out).trans R1.out)
  have B2 := Lib.hid (B1.out.trans (hb2.mono B1.out.size))
  have HLT2 := Lib.hid (Nat.lt_of_lt_of_le HLT1.out hb2.size)
  clear hb2
  by_cases hz0 : z = 0
  · subst hz0
    have hql : q.length ≤ 1048576 := by
      have h1 : RP.nextL l = (0, q, []) := by
        rcases RP.one_cases l with ⟨q', h1, h2⟩ | ⟨e, h1⟩
        · rw [HZ.out] at h1
          obtain rfl := (Prod.mk.inj h1).2
          exact h2
        · rw [HZ.out] at h1
          exact absurd (Prod.mk.inj h1).1 (by omega)
      exact (RP.next_ok h1).2
    have HFit := Lib.hid (read_fit q)
    have hmx : ∀ m, m ≤ q.length → m ≤ maxLen := fun m hm => by unfold maxLen; omega
    have HMx := Lib.hid hmx
    have c3 := read_any q Q w2 (by rw [← HQ.out]) (by unfold maxLen; omega)
    have HD : Hid (decL l = if (readA q).2 = true ∧ rightA (readA q).1 = true then ((readA q).1, 0) else (zeroA, 90)) := Lib.hid (by unfold decL; rw [HZ.out]; simp)
    obtain ⟨a, ok, hra⟩ : ∃ a ok, readA q = (a, ok) := ⟨_, _, rfl⟩
    rw [hra] at c3 HFit HD
    simp only [] at c3 HFit HD
    obtain ⟨P, hP⟩ : ∃ S : ByteArray, ⟨a.pair.toArray⟩ = S := ⟨_, rfl⟩
    have HP := Lib.hid hP
    unfold ReadPost txt at c3
    rw [hP] at c3
    have C3 := Lib.hid c3
    clear hql hmx c3 hra hP
    repeat (first | (go_at_call 42; fail) | go_skip | go_guarded | go_step | go_upon)
    refine C3.out.mono ?_
    rintro r w3 ⟨vt, vs, rfl, ho1, ho2, hb3⟩
    simp only []
    obtain ⟨ao, ca, hvt, hwt⟩ := wide_own ho1 rfl (fun x hx => HMx.out _ (HFit.out.path x hx))
    obtain ⟨so, sc, hvs, hws⟩ := widem_own ho2 rfl
    subst hvt
    subst hvs
    have hAt : ArAt w3 a ao ca so := ⟨hwt, hws, HMx.out _ HFit.out.pair, HFit.out.fit⟩
    have R3 := Lib.hid ((hb3.block _ HLT2.out).trans R2.out)
    have B3 := Lib.hid (B2.out.trans (hb3.mono B2.out.size))
    have HLT3 := Lib.hid (Nat.lt_of_lt_of_le HLT2.out hb3.size)
    obtain ⟨w4, hw4⟩ : ∃ w4, w3.alloc (.cells #[.string P, .int .i64 a.serial, .slice ao a.tree.length ca, .slice so a.stamps.length sc] 35) = w4 := ⟨_, rfl⟩
    have b4 : Below w3.heap.size w3 w4 := by rw [← hw4]; exact (Below.refl _ _).alloc (Nat.le_refl _) _
    have r4 : w4.heap[w3.heap.size]? = some (.cells #[.string P, .int .i64 a.serial, .slice ao a.tree.length ca, .slice so a.stamps.length sc] 35 (0, 0)) := by rw [← hw4]; exact heap_alloc_new w3 _
    have B4 := Lib.hid (B3.out.trans (b4.mono B3.out.size))
    have R4 := Lib.hid ((b4.block _ HLT3.out).trans R3.out)
    have RA4 := Lib.hid r4
    have O1 := Lib.hid (owns_base (owns_below ho1 b4) w.heap.size (by have := B2.out.size; omega))
    have O2 := Lib.hid (owns_base (owns_below ho2 b4) w.heap.size (by have := B2.out.size; omega))
    have c5 := right_any a ao ca so sc w4 (HE.out.below B4.out).nf (hAt.below b4)
    have hne : w3.heap.size ≠ rs := by have := HLT3.out; omega
    have HNE := Lib.hid hne
    unfold arVal txt at c5
    rw [HP.out] at c5
    obtain ⟨bR, hbR⟩ : ∃ b, rightA a = b := ⟨_, rfl⟩
    rw [hbR] at c5 HD
    have C5 := Lib.hid c5
    have HW4 := Lib.hid hw4
    have HLT4 := Lib.hid (Nat.lt_of_lt_of_le HLT3.out b4.size)
    have HLA4 := Lib.hid ((Array.getElem?_eq_some_iff.1 r4).1)
    clear ho1 ho2 hb3 hwt hws hAt b4 r4 c5 hbR hne
    cases ok with
    | false =>
      have HV : Hid (decL l = (zeroA, 90)) := Lib.hid (by rw [HD.out]; simp)
      obtain ⟨q0, q1, q2, q3, qf⟩ := cell4 R4.out
      repeat (first | go_skip | go_guarded | go_step | go_upon)
      refine bodyPost_ret (v := .tuple #[.agg #[.string ⟨#[]⟩, .int .i64 0, .slice none 0 0, .slice none 0 0], .int .i64 90]) ?_ rfl ?_
      · rw [results_cell_tmp rfl]
        go_simp
      · have b := B4.out
        have e := HRS.out
        rw [e] at b
        refine DecPost.bad HV.out ?_
        rw [e]
        first
          | exact b
          | exact ((((b.setCell (p := ⟨rs, 0, none⟩) (Nat.le_refl _) _).setCell (p := ⟨rs, 1, none⟩) (Nat.le_refl _) _).setCell (p := ⟨rs, 2, none⟩) (Nat.le_refl _) _).setCell (p := ⟨rs, 3, none⟩) (Nat.le_refl _) _)
    | true =>
      have p0 : w4.cell? ⟨w3.heap.size, 0, none⟩ = some (.string P) := by rw [cell_of_row _ _ 0 _ _ _ RA4.out]; rfl
      have p1 : w4.cell? ⟨w3.heap.size, 1, none⟩ = some (.int .i64 a.serial) := by rw [cell_of_row _ _ 1 _ _ _ RA4.out]; rfl
      have p2 : w4.cell? ⟨w3.heap.size, 2, none⟩ = some (.slice ao a.tree.length ca) := by rw [cell_of_row _ _ 2 _ _ _ RA4.out]; rfl
      have p3 : w4.cell? ⟨w3.heap.size, 3, none⟩ = some (.slice so a.stamps.length sc) := by rw [cell_of_row _ _ 3 _ _ _ RA4.out]; rfl
      repeat (first | (go_at_call 34; fail) | go_skip | go_guarded | go_step | go_upon)
      try rw [HW4.out]
      refine C5.out.mono ?_
      rintro r w5 ⟨rfl, hb5⟩
      simp only []
      have R5 := Lib.hid ((hb5.block _ HLT4.out).trans R4.out)
      have RA5 := Lib.hid ((hb5.block _ HLA4.out).trans RA4.out)
      have B5 := Lib.hid (B4.out.trans (hb5.mono B4.out.size))
      have P1 := Lib.hid (owns_below O1.out hb5)
      have P2 := Lib.hid (owns_below O2.out hb5)
      clear hb5 p0 p1 p2 p3
      obtain ⟨q0, q1, q2, q3, qf⟩ := cell4 R5.out
      cases bR with
      | false =>
        have HV : Hid (decL l = (zeroA, 90)) := Lib.hid (by rw [HD.out]; simp)
        repeat (first | go_skip | go_guarded | go_step | go_upon)
        refine bodyPost_ret (v := .tuple #[.agg #[.string ⟨#[]⟩, .int .i64 0, .slice none 0 0, .slice none 0 0], .int .i64 90]) ?_ rfl ?_
        · rw [results_cell_tmp rfl]
          go_simp
        · have b := B5.out
          have e := HRS.out
          rw [e] at b
          refine DecPost.bad HV.out ?_
          rw [e]
          first
            | exact b
            | exact ((((b.setCell (p := ⟨rs, 0, none⟩) (Nat.le_refl _) _).setCell (p := ⟨rs, 1, none⟩) (Nat.le_refl _) _).setCell (p := ⟨rs, 2, none⟩) (Nat.le_refl _) _).setCell (p := ⟨rs, 3, none⟩) (Nat.le_refl _) _)
      | true =>
        have HV : Hid (decL l = (a, 0)) := Lib.hid (by rw [HD.out]; simp)
        obtain ⟨p0, p1, p2, p3, pf⟩ := cell4 RA5.out
        repeat (first | go_skip | go_guarded | go_step | go_upon)
        refine bodyPost_ret (v := .tuple #[.agg #[.string P, .int .i64 a.serial, .slice ao a.tree.length ca, .slice so a.stamps.length sc], .int .i64 0]) ?_ rfl ?_
        · rw [results_cell_tmp rfl]
          go_simp
        · have e := HRS.out
          have hO : ∀ W, Out (· = rs) w5 W → W.ownsRow w.heap.size 25 4 (.slice ao a.tree.length ca) a.tree.length (nodesC a.tree) ∧ W.ownsRow w.heap.size 67 3 (.slice so a.stamps.length sc) a.stamps.length (smsC a.stamps) ∧ Below w.heap.size w W := fun W hW => by
            refine ⟨hW.owns P1.out (fun g hg eg => kinds_no P1.out R5.out (by decide) (eg ▸ hg)), hW.owns P2.out (fun g hg eg => kinds_no P2.out R5.out (by decide) (eg ▸ hg)), ?_⟩
            exact ((Out.of_below B5.out).then hW (fun j hj e2 => by omega)).below (fun j hj _ hn => by omega) (Nat.le_refl _)
          have hfin := hO _ ((((Out.refl (· = rs) w5).setCell (p := ⟨rs, 0, none⟩) (fun _ => rfl) (.string P)).setCell (p := ⟨rs, 1, none⟩) (fun _ => rfl) (.int .i64 a.serial)).setCell (p := ⟨rs, 2, none⟩) (fun _ => rfl) (.slice ao a.tree.length ca) |>.setCell (p := ⟨rs, 3, none⟩) (fun _ => rfl) (.slice so a.stamps.length sc))
          refine ⟨.slice ao a.tree.length ca, .slice so a.stamps.length sc, ?_, ?_, ?_, ?_⟩
          · rw [HV.out]
            simp only []
            unfold txt
            rw [HP.out]
            rfl
          · rw [HV.out]
            exact hfin.1
          · rw [HV.out]
            exact hfin.2.1
          · exact hfin.2.2
  · have HV : Hid (decL l = (zeroA, 90)) := Lib.hid (dec_bad (by rw [HZ.out]; exact hz0))
    have hzb : ((z : Int) != 0) = true := by simp; omega
    have hzc : ¬ (z : Int) = 0 := by omega
    obtain ⟨q0, q1, q2, q3, qf⟩ := cell4 R2.out
    repeat (first | go_skip | go_guarded | go_step | go_upon)
    refine bodyPost_ret (v := .tuple #[.agg #[.string ⟨#[]⟩, .int .i64 0, .slice none 0 0, .slice none 0 0], .int .i64 90]) ?_ rfl ?_
    · rw [results_cell_tmp rfl]
      go_simp
    · have b := B2.out
      have e := HRS.out
      rw [e] at b
      refine DecPost.bad HV.out ?_
      rw [e]
      first
        | exact b
        | exact ((((b.setCell (p := ⟨rs, 0, none⟩) (Nat.le_refl _) _).setCell (p := ⟨rs, 1, none⟩) (Nat.le_refl _) _).setCell (p := ⟨rs, 2, none⟩) (Nat.le_refl _) _).setCell (p := ⟨rs, 3, none⟩) (Nat.le_refl _) _)
end AD
end Go.Proofs.YtiggdojppfblkaaGreatDoor
end

section
/- Layer 9: the statements' own guard 'awake'. -/
namespace Go.Proofs.YtiggdojppfblkaaGreatDoor
open Go.RowKit Go.Lib Go.BigFrame
namespace AD
open OM TP TM TG TW TR AP AR FP

def a0 : Ar := ⟨[112], 3, [], []⟩
theorem a0_right : RightA a0 := ⟨by simp [a0], by decide, by decide, tree_nil, fun n hn => by simp [a0] at hn, rfl, fun s hs => by simp [a0] at hs⟩
theorem a0_fit : FitA a0 := ⟨(by decide : (3 : Int) < 9223372036854775808), fun s hs => by simp [a0] at hs⟩
theorem a0_at (w : World) : ArAt w a0 none 0 none := ⟨Wide.nil w, ⟨LayM.nil _ _, Nat.zero_le _⟩, by unfold maxLen; decide, a0_fit⟩
set_option maxRecDepth 100000 in
set_option maxHeartbeats 6400000 in
theorem awake_any (w : World) (he : Env w) : Calls Tryz.prog 9 #[] w fun e w' => e = .returned (.bool true) ∧ Below w.heap.size w w' := by
  have c1 := encode_any a0 none 0 none 0 w he (a0_at w)
  have e1 : encL a0 = (RP.packL (payL a0), 0) := by unfold encL; rw [if_pos ((right_iff a0).2 a0_right)]
  rw [e1] at c1
  obtain ⟨s, hs⟩ : ∃ s, RP.packL (payL a0) = s := ⟨_, rfl⟩
  have hsl : s.length ≤ 140737488355328 := by
    have := pay_len a0_right a0_fit
    rw [← hs, RP.pack_len]
    unfold RP.MaxP at this
    omega
  have hdec : decL s = (a0, 0) := by rw [← hs]; exact dec_enc a0_right a0_fit
  rw [hs] at c1
  have C2 : Hid (∀ W, Below w.heap.size w W → Calls Tryz.prog 21 #[txt s] W (DecPost s W)) := Lib.hid (fun W hW => decode_any s W (he.below hW) hsl)
  have HD := Lib.hid hdec
  unfold arVal txt at c1
  unfold txt at C2
  simp only [a0] at c1
  obtain ⟨S, hS⟩ : ∃ S : ByteArray, ⟨s.toArray⟩ = S := ⟨_, rfl⟩
  rw [hS] at c1 C2
  have C1 := Lib.hid c1
  clear c1 hs hsl hdec hS e1
  go_enter Tryz.func9, Tryz.ntmps9
  repeat (first | (go_at_call 15; fail) | go_skip | go_guarded | go_step | go_upon)
  refine C1.out.mono ?_
  rintro r w1 ⟨rfl, hb1⟩
  simp only []
  have B1 := Lib.hid hb1
  clear hb1
  repeat (first | (go_at_call 21; fail) | go_skip | go_guarded | go_step | go_upon)
  refine (C2.out w1 B1.out).mono ?_
  rintro r w2 ⟨vt, vs, rfl, ho1, ho2, hb2⟩
  simp only []
  rw [HD.out] at ho1 ho2
  obtain ⟨a1, c1, rfl, _⟩ := lay_own (ts := []) ho1
  obtain ⟨a2, c2, rfl, _⟩ := laym_own (l := []) ho2
  have B2 := Lib.hid (B1.out.trans (hb2.mono B1.out.size))
  rw [HD.out]
  have ep : txt a0.pair = .string ⟨#[112]⟩ := rfl
  have es : a0.serial = 3 := rfl
  rw [ep, es]
  clear ho1 ho2 hb2 ep es
  have B3 : Hid (Below w.heap.size w (w2.alloc (.cells #[.string ⟨#[112]⟩, .int .i64 3, .slice a1 0 c1, .slice a2 0 c2] 35))) := Lib.hid (B2.out.alloc B2.out.size _)
  repeat (first | go_skip | go_guarded | go_step | go_upon)
  go_ret
  exact ⟨rfl, B3.out⟩
end AD
end Go.Proofs.YtiggdojppfblkaaGreatDoor
end

section
/- Layer 9: the contract of the program's Match. -/
namespace Go.Proofs.YtiggdojppfblkaaGreatDoor
open Go.RowKit Go.Lib Go.BigFrame
namespace AR
open OM TP TM TG TW AP TR

set_option maxRecDepth 100000 in
set_option maxHeartbeats 6400000 in
theorem match_any (a b : Ar) (ao : Option Addr) (ca : Nat) (so : Option Addr) (sc : Nat) (bo : Option Addr) (cb : Nat) (uo : Option Addr) (tc : Nat) (w : World) (he : NF.Env w) (h : ArAt w a ao ca so) (k : ArAt w b bo cb uo) :
    Calls Tryz.prog 19 #[arVal a ao ca so sc, arVal b bo cb uo tc] w fun r w' => r = .returned (.bool (matchA a b)) ∧ Below w.heap.size w w' := by
  have CR : Hid (∀ W, Below w.heap.size w W → Calls Tryz.prog 34 #[arVal a ao ca so sc] W fun r w' => r = .returned (.bool (rightA a)) ∧ Below W.heap.size W w') := Lib.hid (fun W hW => right_any a ao ca so sc W (he.below hW) (h.below hW))
  have CS : Hid (∀ W, Below w.heap.size w W → Calls Tryz.prog 34 #[arVal b bo cb uo tc] W fun r w' => r = .returned (.bool (rightA b)) ∧ Below W.heap.size W w') := Lib.hid (fun W hW => right_any b bo cb uo tc W (he.below hW) (k.below hW))
  have CT : Hid (∀ W, Below w.heap.size w W → Calls Tryz.prog 24 #[.slice ao a.tree.length ca, .slice bo b.tree.length cb] W fun r w' => r = .returned (.bool (decide (a.tree = b.tree))) ∧ Below W.heap.size W w') := Lib.hid (fun W hW => same_any ao bo ca cb a.tree b.tree W (h.tree.lay.below hW) (k.tree.lay.below hW) h.tree.max k.tree.max)
  unfold arVal txt at CR CS ⊢
  obtain ⟨P, hP⟩ : ∃ P : ByteArray, ⟨a.pair.toArray⟩ = P := ⟨_, rfl⟩
  obtain ⟨Q, hQ⟩ : ∃ P : ByteArray, ⟨b.pair.toArray⟩ = P := ⟨_, rfl⟩
  have hPQ : (P.toList == Q.toList) = decide (a.pair = b.pair) := by rw [← hP, ← hQ]; exact str_eq _ _
  have hst : (a.serial == b.serial) = decide (a.serial = b.serial) := by rw [Bool.eq_iff_iff]; simp
  obtain ⟨n, hn⟩ : ∃ n, a.tree.length = n := ⟨_, rfl⟩
  obtain ⟨m, hm⟩ : ∃ n, a.stamps.length = n := ⟨_, rfl⟩
  obtain ⟨s, hs⟩ : ∃ n, a.serial = n := ⟨_, rfl⟩
  obtain ⟨n', hn'⟩ : ∃ n, b.tree.length = n := ⟨_, rfl⟩
  obtain ⟨m', hm'⟩ : ∃ n, b.stamps.length = n := ⟨_, rfl⟩
  obtain ⟨s', hs'⟩ : ∃ n, b.serial = n := ⟨_, rfl⟩
  obtain ⟨x1, hx1⟩ : ∃ x, rightA a = x := ⟨_, rfl⟩
  obtain ⟨x2, hx2⟩ : ∃ x, rightA b = x := ⟨_, rfl⟩
  obtain ⟨x3, hx3⟩ : ∃ x, decide (a.pair = b.pair) = x := ⟨_, rfl⟩
  obtain ⟨x4, hx4⟩ : ∃ x, decide (a.serial = b.serial) = x := ⟨_, rfl⟩
  obtain ⟨x5, hx5⟩ : ∃ x, decide (a.tree = b.tree) = x := ⟨_, rfl⟩
  have HV : Hid (matchA a b = (x1 && x2 && x3 && x4 && x5)) := Lib.hid (by unfold matchA; rw [hx1, hx2, hx3, hx4, hx5])
  rw [hP, hn, hm, hs, hx1] at CR
  rw [hQ, hn', hm', hs', hx2] at CS
  rw [hn, hn', hx5] at CT
  rw [hx3] at hPQ
  rw [hx4, hs, hs'] at hst
  rw [hP, hQ, hn, hm, hs, hn', hm', hs']
  obtain ⟨w1, hw1⟩ : ∃ w1, w.alloc (.cells #[.string P, .int .i64 s, .slice ao n ca, .slice so m sc] 35) = w1 := ⟨_, rfl⟩
  have b1 : Below w.heap.size w w1 := by rw [← hw1]; exact (Below.refl _ _).alloc (Nat.le_refl _) _
  obtain ⟨r0, r1, r2, r3⟩ := box4 w (.string P) (.int .i64 s) (.slice ao n ca) (.slice so m sc) 35
  rw [hw1] at r0 r1 r2 r3
  have hl0 : w.heap.size < w1.heap.size := by rw [← hw1]; simp
  obtain ⟨w2, hw2⟩ : ∃ w2, w1.alloc (.cells #[.string Q, .int .i64 s', .slice bo n' cb, .slice uo m' tc] 35) = w2 := ⟨_, rfl⟩
  have b2 : Below w1.heap.size w1 w2 := by rw [← hw2]; exact (Below.refl _ _).alloc (Nat.le_refl _) _
  obtain ⟨t0, t1, t2, t3⟩ := box4 w1 (.string Q) (.int .i64 s') (.slice bo n' cb) (.slice uo m' tc) 35
  rw [hw2] at t0 t1 t2 t3
  have hl2 : w1.heap.size < w2.heap.size := by rw [← hw2]; simp
  have hl1 : w.heap.size < w2.heap.size := Nat.lt_trans hl0 hl2
  have s0 := (b2.cell (p := ⟨w.heap.size, 0, none⟩) hl0).trans r0
  have s1 := (b2.cell (p := ⟨w.heap.size, 1, none⟩) hl0).trans r1
  have s2 := (b2.cell (p := ⟨w.heap.size, 2, none⟩) hl0).trans r2
  have s3 := (b2.cell (p := ⟨w.heap.size, 3, none⟩) hl0).trans r3
  have B0 := Lib.hid (Below.trans b1 (b2.mono b1.size))
  clear hP hQ hn hm hs hn' hm' hs' hx1 hx2 hx3 hx4 hx5 h k he b1 b2
  cases x1 with
  | false =>
    go_enter Tryz.func19, Tryz.ntmps19
    repeat (first | (go_at_call 34; fail) | go_skip | go_guarded | go_step | go_upon)
    refine (CR.out _ B0.out).mono ?_
    rintro r w3 ⟨rfl, hb⟩
    simp only []
    have B3 := Lib.hid (Below.trans B0.out (hb.mono B0.out.size))
    have u0 := (hb.cell (p := ⟨w1.heap.size, 0, none⟩) hl2).trans t0
    have u1 := (hb.cell (p := ⟨w1.heap.size, 1, none⟩) hl2).trans t1
    have u2 := (hb.cell (p := ⟨w1.heap.size, 2, none⟩) hl2).trans t2
    have u3 := (hb.cell (p := ⟨w1.heap.size, 3, none⟩) hl2).trans t3
    have v0 := (hb.cell (p := ⟨w.heap.size, 0, none⟩) hl1).trans s0
    have v1 := (hb.cell (p := ⟨w.heap.size, 1, none⟩) hl1).trans s1
    have v2 := (hb.cell (p := ⟨w.heap.size, 2, none⟩) hl1).trans s2
    have hl1' := Nat.lt_of_lt_of_le hl1 hb.size
    have hl2' := Nat.lt_of_lt_of_le hl2 hb.size
    clear hb s0 s1 s2 s3 t0 t1 t2 t3 r0 r1 r2 r3
    repeat (first | go_skip | go_guarded | go_step | go_upon)
    go_ret
    exact ⟨by rw [HV.out]; first | rfl | simp, B3.out⟩
  | true =>
    cases x2 with
    | false =>
      go_enter Tryz.func19, Tryz.ntmps19
      repeat (first | (go_at_call 34; fail) | go_skip | go_guarded | go_step | go_upon)
      refine (CR.out _ B0.out).mono ?_
      rintro r w3 ⟨rfl, hb⟩
      simp only []
      have B3 := Lib.hid (Below.trans B0.out (hb.mono B0.out.size))
      have u0 := (hb.cell (p := ⟨w1.heap.size, 0, none⟩) hl2).trans t0
      have u1 := (hb.cell (p := ⟨w1.heap.size, 1, none⟩) hl2).trans t1
      have u2 := (hb.cell (p := ⟨w1.heap.size, 2, none⟩) hl2).trans t2
      have u3 := (hb.cell (p := ⟨w1.heap.size, 3, none⟩) hl2).trans t3
      have v0 := (hb.cell (p := ⟨w.heap.size, 0, none⟩) hl1).trans s0
      have v1 := (hb.cell (p := ⟨w.heap.size, 1, none⟩) hl1).trans s1
      have v2 := (hb.cell (p := ⟨w.heap.size, 2, none⟩) hl1).trans s2
      have hl1' := Nat.lt_of_lt_of_le hl1 hb.size
      have hl2' := Nat.lt_of_lt_of_le hl2 hb.size
      clear hb s0 s1 s2 s3 t0 t1 t2 t3 r0 r1 r2 r3
      repeat (first | (go_at_call 34; fail) | go_skip | go_guarded | go_step | go_upon)
      refine (CS.out _ B3.out).mono ?_
      rintro r w4 ⟨rfl, hb⟩
      simp only []
      have B4 := Lib.hid (Below.trans B3.out (hb.mono B3.out.size))
      have p0 := (hb.cell (p := ⟨w1.heap.size, 0, none⟩) hl2').trans u0
      have p1 := (hb.cell (p := ⟨w1.heap.size, 1, none⟩) hl2').trans u1
      have p2 := (hb.cell (p := ⟨w1.heap.size, 2, none⟩) hl2').trans u2
      have q0 := (hb.cell (p := ⟨w.heap.size, 0, none⟩) hl1').trans v0
      have q1 := (hb.cell (p := ⟨w.heap.size, 1, none⟩) hl1').trans v1
      have q2 := (hb.cell (p := ⟨w.heap.size, 2, none⟩) hl1').trans v2
      clear hb u0 u1 u2 u3 v0 v1 v2
      repeat (first | go_skip | go_guarded | go_step | go_upon)
      go_ret
      exact ⟨by rw [HV.out]; first | rfl | simp, B4.out⟩
    | true =>
      cases x3 with
      | false =>
        go_enter Tryz.func19, Tryz.ntmps19
        repeat (first | (go_at_call 34; fail) | go_skip | go_guarded | go_step | go_upon)
        refine (CR.out _ B0.out).mono ?_
        rintro r w3 ⟨rfl, hb⟩
        simp only []
        have B3 := Lib.hid (Below.trans B0.out (hb.mono B0.out.size))
        have u0 := (hb.cell (p := ⟨w1.heap.size, 0, none⟩) hl2).trans t0
        have u1 := (hb.cell (p := ⟨w1.heap.size, 1, none⟩) hl2).trans t1
        have u2 := (hb.cell (p := ⟨w1.heap.size, 2, none⟩) hl2).trans t2
        have u3 := (hb.cell (p := ⟨w1.heap.size, 3, none⟩) hl2).trans t3
        have v0 := (hb.cell (p := ⟨w.heap.size, 0, none⟩) hl1).trans s0
        have v1 := (hb.cell (p := ⟨w.heap.size, 1, none⟩) hl1).trans s1
        have v2 := (hb.cell (p := ⟨w.heap.size, 2, none⟩) hl1).trans s2
        have hl1' := Nat.lt_of_lt_of_le hl1 hb.size
        have hl2' := Nat.lt_of_lt_of_le hl2 hb.size
        clear hb s0 s1 s2 s3 t0 t1 t2 t3 r0 r1 r2 r3
        repeat (first | (go_at_call 34; fail) | go_skip | go_guarded | go_step | go_upon)
        refine (CS.out _ B3.out).mono ?_
        rintro r w4 ⟨rfl, hb⟩
        simp only []
        have B4 := Lib.hid (Below.trans B3.out (hb.mono B3.out.size))
        have p0 := (hb.cell (p := ⟨w1.heap.size, 0, none⟩) hl2').trans u0
        have p1 := (hb.cell (p := ⟨w1.heap.size, 1, none⟩) hl2').trans u1
        have p2 := (hb.cell (p := ⟨w1.heap.size, 2, none⟩) hl2').trans u2
        have q0 := (hb.cell (p := ⟨w.heap.size, 0, none⟩) hl1').trans v0
        have q1 := (hb.cell (p := ⟨w.heap.size, 1, none⟩) hl1').trans v1
        have q2 := (hb.cell (p := ⟨w.heap.size, 2, none⟩) hl1').trans v2
        clear hb u0 u1 u2 u3 v0 v1 v2
        repeat (first | go_skip | go_guarded | go_step | go_upon)
        go_ret
        exact ⟨by rw [HV.out]; first | rfl | simp, B4.out⟩
      | true =>
        cases x4 with
        | false =>
          go_enter Tryz.func19, Tryz.ntmps19
          repeat (first | (go_at_call 34; fail) | go_skip | go_guarded | go_step | go_upon)
          refine (CR.out _ B0.out).mono ?_
          rintro r w3 ⟨rfl, hb⟩
          simp only []
          have B3 := Lib.hid (Below.trans B0.out (hb.mono B0.out.size))
          have u0 := (hb.cell (p := ⟨w1.heap.size, 0, none⟩) hl2).trans t0
          have u1 := (hb.cell (p := ⟨w1.heap.size, 1, none⟩) hl2).trans t1
          have u2 := (hb.cell (p := ⟨w1.heap.size, 2, none⟩) hl2).trans t2
          have u3 := (hb.cell (p := ⟨w1.heap.size, 3, none⟩) hl2).trans t3
          have v0 := (hb.cell (p := ⟨w.heap.size, 0, none⟩) hl1).trans s0
          have v1 := (hb.cell (p := ⟨w.heap.size, 1, none⟩) hl1).trans s1
          have v2 := (hb.cell (p := ⟨w.heap.size, 2, none⟩) hl1).trans s2
          have hl1' := Nat.lt_of_lt_of_le hl1 hb.size
          have hl2' := Nat.lt_of_lt_of_le hl2 hb.size
          clear hb s0 s1 s2 s3 t0 t1 t2 t3 r0 r1 r2 r3
          repeat (first | (go_at_call 34; fail) | go_skip | go_guarded | go_step | go_upon)
          refine (CS.out _ B3.out).mono ?_
          rintro r w4 ⟨rfl, hb⟩
          simp only []
          have B4 := Lib.hid (Below.trans B3.out (hb.mono B3.out.size))
          have p0 := (hb.cell (p := ⟨w1.heap.size, 0, none⟩) hl2').trans u0
          have p1 := (hb.cell (p := ⟨w1.heap.size, 1, none⟩) hl2').trans u1
          have p2 := (hb.cell (p := ⟨w1.heap.size, 2, none⟩) hl2').trans u2
          have q0 := (hb.cell (p := ⟨w.heap.size, 0, none⟩) hl1').trans v0
          have q1 := (hb.cell (p := ⟨w.heap.size, 1, none⟩) hl1').trans v1
          have q2 := (hb.cell (p := ⟨w.heap.size, 2, none⟩) hl1').trans v2
          clear hb u0 u1 u2 u3 v0 v1 v2
          repeat (first | go_skip | go_guarded | go_step | go_upon)
          go_ret
          exact ⟨by rw [HV.out]; first | rfl | simp, B4.out⟩
        | true =>
          go_enter Tryz.func19, Tryz.ntmps19
          repeat (first | (go_at_call 34; fail) | go_skip | go_guarded | go_step | go_upon)
          refine (CR.out _ B0.out).mono ?_
          rintro r w3 ⟨rfl, hb⟩
          simp only []
          have B3 := Lib.hid (Below.trans B0.out (hb.mono B0.out.size))
          have u0 := (hb.cell (p := ⟨w1.heap.size, 0, none⟩) hl2).trans t0
          have u1 := (hb.cell (p := ⟨w1.heap.size, 1, none⟩) hl2).trans t1
          have u2 := (hb.cell (p := ⟨w1.heap.size, 2, none⟩) hl2).trans t2
          have u3 := (hb.cell (p := ⟨w1.heap.size, 3, none⟩) hl2).trans t3
          have v0 := (hb.cell (p := ⟨w.heap.size, 0, none⟩) hl1).trans s0
          have v1 := (hb.cell (p := ⟨w.heap.size, 1, none⟩) hl1).trans s1
          have v2 := (hb.cell (p := ⟨w.heap.size, 2, none⟩) hl1).trans s2
          have hl1' := Nat.lt_of_lt_of_le hl1 hb.size
          have hl2' := Nat.lt_of_lt_of_le hl2 hb.size
          clear hb s0 s1 s2 s3 t0 t1 t2 t3 r0 r1 r2 r3
          repeat (first | (go_at_call 34; fail) | go_skip | go_guarded | go_step | go_upon)
          refine (CS.out _ B3.out).mono ?_
          rintro r w4 ⟨rfl, hb⟩
          simp only []
          have B4 := Lib.hid (Below.trans B3.out (hb.mono B3.out.size))
          have p0 := (hb.cell (p := ⟨w1.heap.size, 0, none⟩) hl2').trans u0
          have p1 := (hb.cell (p := ⟨w1.heap.size, 1, none⟩) hl2').trans u1
          have p2 := (hb.cell (p := ⟨w1.heap.size, 2, none⟩) hl2').trans u2
          have q0 := (hb.cell (p := ⟨w.heap.size, 0, none⟩) hl1').trans v0
          have q1 := (hb.cell (p := ⟨w.heap.size, 1, none⟩) hl1').trans v1
          have q2 := (hb.cell (p := ⟨w.heap.size, 2, none⟩) hl1').trans v2
          clear hb u0 u1 u2 u3 v0 v1 v2
          repeat (first | (go_at_call 24; refine (CT.out _ B4.out).mono ?_; rintro r w5 ⟨rfl, hb⟩; simp only []; have B5 := Lib.hid (Below.trans B4.out (hb.mono B4.out.size)); clear hb) | go_skip | go_guarded | go_step | go_upon)
          go_ret
          exact ⟨by rw [HV.out]; first | rfl | simp, B5.out⟩
end AR
end Go.Proofs.YtiggdojppfblkaaGreatDoor
end

section
/- What the rows of layer 9 share: what their world holds of Go's tables and the check sum's, the witness's world, archives out of the arguments. -/
namespace Go.Proofs.YtiggdojppfblkaaGreatDoor
open Go.ChangeShapes Go.WideShapes Go.ChangeAt Go.RowKit Go.Lib
namespace FA

theorem own : ownKnob Tryz.prog.godebug = none := by kernel_rfl
def laid : List (String × DataW Unit) := [("hawser/hash.checks", Rows.laid_hawser_hash_checks), ("unicode/utf8.acceptRanges", Rows.laid_unicode_utf8_acceptRanges), ("unicode/utf8.first", Rows.laid_unicode_utf8_first)]
theorem tab_cell {W : World} {name : String} {d : DataW Unit} {zs : List Int} {g t e n : Nat} (hr : VarReads Tryz.prog W name d) (hd : d = tabData .u32 zs) (hg : Tryz.prog.globalNamed name = some g)
    (hty : (Tryz.prog.globals[g]?).map (·.type) = some t) (ht : Tryz.prog.underlying t = some (.array n e)) (he : Tryz.prog.underlying e = some (.int .u32)) (hce : Tryz.prog.cellsOf e = 1) (hct : Tryz.prog.cellsOf t = n)
    (i : Nat) (hi : i < zs.length) : W.cell? ⟨g, i, none⟩ = some (.int .u32 (zs.getD i 0)) := by
  obtain ⟨g', t', cs, fuel, p, hg', hty', hvar, htr⟩ := hr
  obtain rfl := Option.some.inj (hg.symm.trans hg')
  obtain rfl := Option.some.inj (hty.symm.trans hty')
  subst hd
  have hcs := cells_of_tab ht he hce hct htr
  have := World.var?_cell hg hvar i
  rw [this, ← Array.getElem?_toList, hcs]
  simp [List.getD, hi]
theorem checks_is : (Rows.laid_hawser_hash_checks : DataW Unit) = tabData .u32 ((List.range 16).map fun i => ((HP.csts 4 i : Nat) : Int)) := by kernel_rfl
theorem env_of {W : World} (hL : laidMetH Tryz.prog laid W) (hsh : W.ShapedOpen Tryz.prog) : AR.Env W := by
  rw [MakeChecks.laidMetH_plain _ _ _ (by kernel_rfl)] at hL
  refine ⟨⟨utf8Tabs_of_readsT (U8Types.of196 Tryz.laysValid) ⟨by kernel_rfl, by kernel_rfl, by kernel_rfl, by kernel_rfl, by kernel_rfl, by kernel_rfl, by kernel_rfl⟩ ?_ ?_, FR.max_cell W hsh⟩, ⟨fun i hi => ?_⟩⟩
  · have := Lib.laidMet.reads hL (.tail _ (.tail _ (.head _)))
    rw [FR.first_eq] at this
    exact this
  · have := Lib.laidMet.reads hL (.tail _ (.head _))
    rw [FR.accept_eq] at this
    exact this
  · have r1 := Lib.laidMet.reads hL (.head _)
    have h := tab_cell (g := 2) (t := 157) (e := 79) (n := 16) r1 checks_is (by kernel_rfl) (by kernel_rfl) Tryz.underlying157 Tryz.underlying79 (by kernel_rfl) (by kernel_rfl) i (by simpa using hi)
    rw [h, List.getD_eq_getElem?_getD, List.getElem?_map, List.getElem?_range hi]
    rfl
/-- The witness's world: the tables lie in it as Go's text lays them. -/
noncomputable def w0 (os : Os) (args : Array Value) : World := (World.laidAll Tryz.prog os laid).forCall (fun _ _ => 0) ⟨#[], args, []⟩
theorem shaped (os : Os) (args : Array Value) : (w0 os args).Shaped Tryz.prog := World.shaped_of_ZipB (by kernel_rfl) (by kernel_rfl)
theorem met (os : Os) (args : Array Value) : laidMetH Tryz.prog laid (w0 os args).memory := by
  rw [MakeChecks.laidMetH_plain _ _ _ (by kernel_rfl)]
  exact laidMet_laidAll _ (by kernel_rfl) (by kernel_rfl)
theorem witness {H : Type} {enc : TypeId × Value → H} {os : Os} {f : FuncId} {fn : Func} {s : OpenSpec} {conds : List PathCond} {apart : Bool} (args : Array Value)
    (hok : Input.okWideB Tryz.checked.prog (w0 os args) f ⟨#[], args, []⟩ = true)
    (hrow : s.preRow enc Tryz.checked.prog fn conds apart laid (w0 os args).memory args) :
    ∃ (w : World) (tape : Tape) (i : Input), w.os = os ∧ (w.forCall tape i).Shaped Tryz.checked.prog ∧ i.vars = [] ∧ Input.okWide Tryz.checked.prog (w.forCall tape i) .any w.heap.size f i ∧
      s.preRow enc Tryz.checked.prog fn conds apart laid (w.forCall tape i).memory i.args ∧ ({} : Assume).holds Tryz.checked.prog (lone (Frame.enter Tryz.checked.prog f i.args .normal) [] (w.forCall tape i)) :=
  ⟨World.laidAll Tryz.prog os laid, fun _ _ => 0, ⟨#[], args, []⟩, World.laidAll_os _ _ _, shaped os args, (Input.okWide_of_okWideB (base := 0) hok).1, (Input.okWide_of_okWideB hok).2, hrow, by
    simp only [Assume.holds]
    exact ⟨by simp, by simp, fun _ => Modest.zero, by simp, by simp⟩⟩

open AP AR TP TM TG TW
section
open Go.Deep
variable {H : Type} {enc : TypeId × Value → H} {P : Program} {w : World} {base : Nat} {spare : Nat → Bool} {held : Bool}
theorem open_threes {t e : TypeId} {f0 f1 f2 : Field} {fuel : Nat} {cs : List Value} {x : DataW H × List MemPlace} (ht : P.underlying t = some (.slice e)) (he : P.underlying e = some (.struct #[f0, f1, f2]))
    (ce : P.cellsOf e = 3) (o0 : f0.offset = 0) (o1 : f1.offset = 1) (o2 : f2.offset = 2) (c0 : P.cellsOf f0.type = 1) (c1 : P.cellsOf f1.type = 1) (c2 : P.cellsOf f2.type = 1)
    (h : DataW.trod enc P w base spare held fuel t cs = some x) :
    cs = [.slice none 0 0] ∨
    ∃ (a : Addr) (len cap n : Nat) (D : Nat → DataW H) (sp : List (DataW H)), cs = [.slice (some a) len cap] ∧ len ≤ cap ∧ cap ≤ maxLen ∧ x.1 = .slice ((List.range len).map D) sp ∧
      ∀ i, i < len → ∃ (v0 v1 v2 : Value) (y0 y1 y2 : DataW H × List MemPlace), w.cell? (a.add (i * 3)) = some v0 ∧ w.cell? (a.add (i * 3 + 1)) = some v1 ∧ w.cell? (a.add (i * 3 + 2)) = some v2 ∧
        D i = .agg [y0.1, y1.1, y2.1] ∧
        DataW.trod enc P w base spare held n f0.type [v0] = some y0 ∧ DataW.trod enc P w base spare held n f1.type [v1] = some y1 ∧ DataW.trod enc P w base spare held n f2.type [v2] = some y2 := by
  rcases open_slice ht h with h0 | ⟨a, len, cap, m, n, D, Pl, rfl, hb, hl, hm, hmm, rfl, hx⟩
  · exact Or.inl h0.1
  right
  have hlm : len ≤ m := by rw [hmm]; split <;> omega
  refine ⟨a, len, cap, n - 1, D, _, rfl, hl, hm, rfl, fun i hi => ?_⟩
  obtain ⟨cs', h1, h2⟩ := hx i (by omega)
  rw [ce] at h1
  obtain ⟨_, hlen, hcell⟩ := World.cells?_some h1
  obtain ⟨xs, k, hk, hxy, _, hxl, hf⟩ := DataW.trod_struct he h2
  have hk' : k = n - 1 := by omega
  subst hk'
  match xs, hxl, cs', hlen with
  | [y0, y1, y2], _, [v0, v1, v2], _ =>
    have g0 := hf 0 f0 rfl
    have g1 := hf 1 f1 rfl
    have g2 := hf 2 f2 rfl
    simp [o0, o1, o2, c0, c1, c2] at g0 g1 g2
    have e0 := hcell 0 (by omega)
    have e1 := hcell 1 (by omega)
    have e2 := hcell 2 (by omega)
    rw [add_add] at e0 e1 e2
    simp only [Prod.mk.injEq] at hxy
    exact ⟨v0, v1, v2, y0, y1, y2, by simpa using e0, by simpa using e1, by simpa using e2, hxy.1, g0, g1, g2⟩
theorem slice_shape {t e : TypeId} {fuel : Nat} {v : Value} {x : DataW H × List MemPlace} (ht : P.underlying t = some (.slice e)) (h : DataW.trod enc P w base spare held fuel t [v] = some x) : ∃ a len cap, v = .slice a len cap := by
  rcases open_slice ht h with h0 | ⟨a, len, cap, m, n, D, Pl, h1, _⟩
  · have := h0.1
    simp only [List.cons.injEq, and_true] at this
    exact ⟨_, _, _, this⟩
  · simp only [List.cons.injEq, and_true] at h1
    exact ⟨_, _, _, h1⟩
end
theorem wf_fits {n : Int} (h : (Lit.int .i64 n).wf = true) : Fits n := by
  unfold Fits
  simp [Lit.wf, IntKind.bits, IntKind.signed, IntKind.min, IntKind.max] at h
  omega
theorem stamps_wide {H : Type} {enc : TypeId × Value → H} {W : World} {spare : Nat → Bool} {held : Bool} {fuel len cap : Nat} {a0 : Option Addr} {x : DataW H × List MemPlace}
    (h : DataW.trod enc Tryz.prog W 0 spare held fuel 33 [Value.slice a0 len cap] = some x) :
    ∃ us : List Sm, us.length = len ∧ WideM W a0 us ∧ ∀ s ∈ us, FitS s := by
  rcases open_threes Tryz.underlying33 Tryz.underlying67 (by kernel_rfl) rfl rfl rfl (by kernel_rfl) (by kernel_rfl) (by kernel_rfl) h with hcs | ⟨ad, len', cap', n, D, sp, hcs, hl, hm, hx, hcell⟩
  · simp at hcs
    obtain ⟨rfl, rfl, rfl⟩ := hcs
    exact ⟨[], rfl, ⟨LayM.nil W _, Nat.zero_le _⟩, fun s hs => by simp at hs⟩
  · simp at hcs
    obtain ⟨rfl, rfl, rfl⟩ := hcs
    have hlen : len ≤ maxLen := Nat.le_trans hl hm
    have hch : ∀ i, i < len → ∃ r : Sm, W.cell? (ad.add (i * 3)) = some (.int .i64 r.ino) ∧ W.cell? (ad.add (i * 3 + 1)) = some (.int .i64 r.size) ∧ W.cell? (ad.add (i * 3 + 2)) = some (.int .i64 r.time) ∧ FitS r := by
      intro i hi
      obtain ⟨v0, v1, v2, y0, y1, y2, e0, e1, e2, hD, t0, t1, t2⟩ := hcell i hi
      obtain ⟨k0, f0, _, g0⟩ := DataW.trod_int (by exact Tryz.underlying3) t0
      obtain ⟨k1, f1, _, g1⟩ := DataW.trod_int (by exact Tryz.underlying3) t1
      obtain ⟨k2, f2, _, g2⟩ := DataW.trod_int (by exact Tryz.underlying3) t2
      simp only [List.cons.injEq, and_true] at f0 f1 f2
      exact ⟨⟨k0, k1, k2⟩, by rw [e0, f0], by rw [e1, f1], by rw [e2, f2], ⟨wf_fits g0, wf_fits g1, wf_fits g2⟩⟩
    haveI : Inhabited Sm := ⟨⟨0, 0, 0⟩⟩
    obtain ⟨R, hR⟩ := Deep.choose_lt hch
    have hrl : ((List.range len).map R).length = len := by simp
    refine ⟨(List.range len).map R, hrl, ⟨fun h0 => ?_, by rw [hrl]; exact hlen⟩, fun m hm => ?_⟩
    · rw [hrl] at h0
      obtain ⟨b, off, spot⟩ := ad
      have c0 := (hR 0 (by omega)).1
      have hspot : spot = none := by simpa [Addr.add] using World.cell?_spot c0
      subst hspot
      rw [TF.add_plain] at c0
      refine ⟨b, off, rfl, (World.block_lt_of_cell? _ _ c0 :), fun k r hk => ?_⟩
      have hkl : k < len := by have := (List.getElem?_eq_some_iff.1 hk).1; rw [hrl] at this; exact this
      rw [List.getElem?_map, List.getElem?_range hkl] at hk
      simp only [Option.map_some, Option.some.injEq] at hk
      subst hk
      obtain ⟨d0, d1, d2, _⟩ := hR k hkl
      rw [TF.add_plain] at d0 d1 d2
      exact ⟨d0, by rw [← d1, Nat.add_assoc], by rw [← d2, Nat.add_assoc]⟩
    · obtain ⟨i, hi, rfl⟩ := List.mem_map.1 hm
      exact (hR i (List.mem_range.1 hi)).2.2.2
set_option maxRecDepth 100000 in
theorem arch_arg {H : Type} {enc : TypeId × Value → H} {W : World} {r : Reach} {b0 : Nat} {spare : Nat → Bool} {held : Bool} {v : Value} {d : DataW H} {p : List MemPlace} (hv : Value.okWide Tryz.prog W r b0 35 v) (h : DataW.Trod enc Tryz.prog W 0 spare held 35 v d p) :
    ∃ (a : Ar) (ao : Option Addr) (ca : Nat) (so : Option Addr) (sc : Nat), v = arVal a ao ca so sc ∧ ArAt W a ao ca so := by
  obtain ⟨v0, v1, v2, v3, y0, y1, y2, y3, n, rfl, _, _, t0, t1, t2, t3⟩ := Go.Joins.open_agg4 (P := Tryz.prog) (t := 35) Tryz.underlying35 (by kernel_rfl) (by kernel_rfl) hv h
  obtain ⟨s0, f0, g0, w0⟩ := DataW.trod_string (by exact Tryz.underlying9) t0
  obtain ⟨k1, f1, _, g1⟩ := DataW.trod_int (by exact Tryz.underlying3) t1
  simp only [List.cons.injEq, and_true] at f0 f1
  obtain ⟨ao, la, ca, rfl⟩ := slice_shape Tryz.underlying22 t2
  obtain ⟨so, ls, sc, rfl⟩ := slice_shape Tryz.underlying33 t3
  obtain ⟨ts, rfl, h2⟩ := TF.nodes_wide t2
  obtain ⟨us, rfl, h3, h4⟩ := stamps_wide t3
  refine ⟨⟨s0.data.toList, k1, ts, us⟩, ao, ca, so, sc, ?_, h2, h3, by show s0.data.toList.length ≤ _; rw [← Lib.size_eq]; exact w0, ⟨wf_fits g1, h4⟩⟩
  unfold arVal
  rw [f0, f1, txt_data]
end FA
end Go.Proofs.YtiggdojppfblkaaGreatDoor
end
