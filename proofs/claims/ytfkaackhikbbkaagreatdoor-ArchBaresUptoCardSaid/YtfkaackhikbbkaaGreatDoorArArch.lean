/- Layer 9: the contract of the writer's archive. -/
import Derived.Test.YtfkaackhikbbkaaGreatDoorMg1
import Derived.Test.YtfkaackhikbbkaaGreatDoorArText
import Derived.Deep.RegionWith
import Derived.Lib.QuietBelow
namespace Go.Proofs.YtfkaackhikbbkaaGreatDoor
open Go.RowKit Go.Lib Go.BigFrame
namespace AW
open CP CR AP GB TP TM AR

def arV (a : Ar) (ao : Option Addr) (ca : Nat) (so : Option Addr) (sc : Nat) : Value := .agg #[txt a.pair, .int .i64 a.serial, .slice ao a.tree.length ca, .slice so a.stamps.length sc]
theorem nodesS_snoc : ∀ (k : Nat) (t : List Nd) (u : List Sm) (n : Nd) (s : Sm), t[k]? = some n → u[k]? = some s → nodesS (t.take (k + 1)) (u.take (k + 1)) = nodesS (t.take k) (u.take k) ++ nodeS n s
  | _, [], _, _, _, h, _ => by simp at h
  | _, _ :: _, [], _, _, _, h => by simp at h
  | 0, a :: t, b :: u, n, s, h, h' => by
    simp at h h'
    subst h
    subst h'
    simp [nodesS]
  | k + 1, a :: t, b :: u, n, s, h, h' => by
    have ih := nodesS_snoc k t u n s (by simpa using h) (by simpa using h')
    rw [List.take_succ_cons, List.take_succ_cons, List.take_succ_cons, List.take_succ_cons, nodesS, ih, nodesS, List.append_assoc]
/-- What stands ahead of the nodes. -/
def headS (a : Ar) : List UInt8 := textS ver ++ (textS a.pair ++ (numS a.serial ++ nm a.tree.length))
theorem pay_head (a : Ar) : payL a = headS a ++ nodesS a.tree a.stamps := by unfold payL headS; simp only [List.append_assoc]
structure AOk (B b bx : Nat) (cs : Array Value) (w1 : World) (l : List UInt8) (wr : World) : Prop where
  has : Has B b l wr
  below : Below B w1 wr
  kept : OthersKept 5 (some b) w1 wr
  row : wr.heap[bx]? = some (.cells cs 35 (0, 0))
def AInv (B b bx : Nat) (cs : Array Value) (w1 : World) (a : Ar) (s : Value) (wr : World) : Prop :=
  ∃ k : Nat, s = .int .i64 k ∧ k ≤ a.tree.length ∧ AOk B b bx cs w1 (headS a ++ nodesS (a.tree.take k) (a.stamps.take k)) wr
theorem AOk.wrote {B b bx : Nat} {cs : Array Value} {w1 : World} {l l' : List UInt8} {wr w' : World} (h : AOk B b bx cs w1 l wr) (hbx : bx ≠ b) (k : Wrote B b l' wr w') : AOk B b bx cs w1 l' w' :=
  ⟨k.has, h.below.trans k.below, h.kept.trans k.kept, kept_row k.kept h.row (by decide) hbx⟩
theorem AOk.thenBelow {B b bx : Nat} {cs : Array Value} {w1 : World} {l : List UInt8} {wr w' : World} (h : AOk B b bx cs w1 l wr) (hB : B ≤ wr.heap.size) (k : Below wr.heap.size wr w') : AOk B b bx cs w1 l w' :=
  ⟨Is.below h.has k, h.below.trans (k.mono hB), h.kept.trans (kept_below k), (k.block _ (Array.getElem?_eq_some_iff.1 h.row).1).trans h.row⟩
theorem row_cell {W : World} {g : Nat} {cs : Array Value} {t : TypeId} (h : W.heap[g]? = some (.cells cs t (0, 0))) (j : Nat) : W.cell? ⟨g, j, none⟩ = cs[j]? := cell_of_row W g j _ _ _ h
theorem one_cs (t : List UInt8) : ∀ (j : Nat) x, [t][j]? = some x → (#[Value.string ⟨t.toArray⟩] : Array Value)[j]? = some (.string ⟨x.toArray⟩)
  | 0, x, h => by simp at h; subst h; rfl
  | j + 1, x, h => by simp at h
theorem two_cs (t u : List UInt8) : ∀ (j : Nat) x, [t, u][j]? = some x → (#[Value.string ⟨t.toArray⟩, Value.string ⟨u.toArray⟩] : Array Value)[j]? = some (.string ⟨x.toArray⟩)
  | 0, x, h => by simp at h; subst h; rfl
  | 1, x, h => by simp at h; subst h; rfl
  | j + 2, x, h => by simp at h
theorem two_ns (t u : Int) : ∀ (j : Nat) x, [t, u][j]? = some x → (#[Value.int .i64 t, Value.int .i64 u] : Array Value)[j]? = some (.int .i64 x)
  | 0, x, h => by simp at h; subst h; rfl
  | 1, x, h => by simp at h; subst h; rfl
  | j + 2, x, h => by simp at h
theorem three_ns (t u v : Int) : ∀ (j : Nat) x, [t, u, v][j]? = some x → (#[Value.int .i64 t, Value.int .i64 u, Value.int .i64 v] : Array Value)[j]? = some (.int .i64 x)
  | 0, x, h => by simp at h; subst h; rfl
  | 1, x, h => by simp at h; subst h; rfl
  | 2, x, h => by simp at h; subst h; rfl
  | j + 3, x, h => by simp at h
theorem nodes_cut {a : Ar} (h : RightA a) (hf : FitA a) (k : Nat) : (headS a ++ nodesS (a.tree.take k) (a.stamps.take k)).length ≤ 1000000 := by
  have hok : ∀ n ∈ a.tree.take k, ∀ s ∈ a.stamps.take k, NodeOk n s := fun n hn s hs => node_ok h hf (List.mem_of_mem_take hn) (List.mem_of_mem_take hs)
  have hlen := nodesS_len (a.tree.take k) (a.stamps.take k) (by rw [List.length_take, List.length_take, h.len]) hok
  have htl := h.tree.len
  have hser := h.serial
  have hfs := hf.serial
  unfold Fits at hfs
  have hpl := h.pairL
  have x6 : (a.tree.take k).length ≤ 1000 := by rw [List.length_take]; omega
  unfold headS textS
  rw [numS_nat hser]
  simp only [List.length_append]
  have x1 := nm_len2 (n := ver.length) (by decide)
  have x2 := nm_len2 (n := a.pair.length) (by omega)
  have x3 := nm_len9 (n := a.serial.toNat) (by omega)
  have x4 := nm_len2 (n := a.tree.length) (by omega)
  have x5 : ver.length = 8 := rfl
  omega
set_option maxRecDepth 100000 in
set_option maxHeartbeats 6400000 in
theorem archive_any (W0 : World) (b : Nat) (a : Ar) (ao : Option Addr) (ca : Nat) (so : Option Addr) (sc : Nat) (w : World) (hr : RightA a) (hf : FitA a) (lt : LayN W0 ao a.tree) (lm : LayM W0 so a.stamps) (hb : Below W0.heap.size W0 w) (h : Has W0.heap.size b [] w) :
    Calls Tryz.prog 35 #[.pointer (some ⟨b, 0, none⟩), arV a ao ca so sc] w (WPost W0.heap.size b (payL a) w) := by
  obtain ⟨B, hB⟩ : ∃ B, W0.heap.size = B := ⟨_, rfl⟩
  have HB0 := Lib.hid hB
  have hBw : B ≤ w.heap.size := by rw [← hB]; exact hb.size
  rw [hB] at h
  have HR := Lib.hid hr
  have HF := Lib.hid hf
  have HLT := Lib.hid lt
  have HLM := Lib.hid lm
  have HBW := Lib.hid hb
  have HCut := Lib.hid (fun k => nodes_cut hr hf k)
  have hpl := hr.pairL
  have hser := hr.serial
  have hfs := hf.serial
  unfold Fits at hfs
  have hn := hr.tree.len
  have hl := hr.len
  obtain ⟨cs, hcs⟩ : ∃ cs : Array Value, #[txt a.pair, .int .i64 a.serial, .slice ao a.tree.length ca, .slice so a.stamps.length sc] = cs := ⟨_, rfl⟩
  have HCS := Lib.hid hcs
  obtain ⟨w1, hw1⟩ : ∃ w1, w.alloc (.cells cs 35) = w1 := ⟨_, rfl⟩
  have b1 : Below w.heap.size w w1 := by rw [← hw1]; exact (Below.refl _ _).alloc (Nat.le_refl _) _
  have r1 : w1.heap[w.heap.size]? = some (.cells cs 35 (0, 0)) := by rw [← hw1]; exact heap_alloc_new w _
  have h1 : Has B b [] w1 := Is.below h b1
  have hxb : w.heap.size ≠ b := fun e => by have := Is.lt h; omega
  have HXB := Lib.hid hxb
  have A1 : Hid (AOk B b w.heap.size cs w1 [] w1) := Lib.hid ⟨h1, Below.refl _ _, OthersKept.refl _ _ _, r1⟩
  have B1 := Lib.hid b1
  have hB1 : B ≤ w1.heap.size := Nat.le_trans hBw b1.size
  have t0 : w1.cell? ⟨w.heap.size, 0, none⟩ = some (txt a.pair) := by rw [row_cell r1, ← hcs]; rfl
  obtain ⟨P, hP⟩ : ∃ P : ByteArray, ⟨a.pair.toArray⟩ = P := ⟨_, rfl⟩
  have HP := Lib.hid hP
  unfold txt at t0
  rw [hP] at t0
  have hgoal : Calls Tryz.prog 35 #[.pointer (some ⟨b, 0, none⟩), .agg cs] w (WPost B b (payL a) w) := by
    clear hb h h1 r1 b1 hxb hcs lt lm hr hf hP
    go_enter Tryz.func35, Tryz.ntmps35
    repeat (first | (go_at_call 67; fail) | go_skip | go_guarded | go_step | go_upon)
    refine (texts_any B b w1.heap.size 2 [] [ver, a.pair] _ (0, 0) _ (Is.below A1.out.has ((Below.refl _ _).alloc (Nat.le_refl _) _)) (by simp; omega) (heap_alloc_new _ _) (by rw [← HP.out]; exact two_cs ver a.pair) (by simp) (by intro t ht; simp at ht; rcases ht with rfl | rfl; exact (by decide); omega) (by decide)).mono ?_
    rintro r W2 ⟨rfl, hw2⟩
    simp only []
    have A2 := Lib.hid ((A1.out.thenBelow hB1 ((Below.refl _ _).alloc (Nat.le_refl _) _)).wrote HXB.out hw2)
    have hB2 : B ≤ W2.heap.size := Nat.le_trans hB1 A2.out.below.size
    clear hw2 t0
    obtain ⟨s1, s2⟩ : W2.cell? ⟨w.heap.size, 1, none⟩ = some (.int .i64 a.serial) ∧ W2.cell? ⟨w.heap.size, 2, none⟩ = some (.slice ao a.tree.length ca) := by
      constructor <;> (rw [row_cell A2.out.row, ← HCS.out]; rfl)
    repeat (first | (go_at_call 68; fail) | go_skip | go_guarded | go_step | go_upon)
    refine (numbers_any B b W2.heap.size 2 _ [a.serial, (a.tree.length : Int)] _ (0, 0) _ (Is.below A2.out.has ((Below.refl _ _).alloc (Nat.le_refl _) _)) (by simp; omega) (heap_alloc_new _ _) (two_ns a.serial (a.tree.length : Int)) (by simp) (by intro t ht; simp at ht; rcases ht with rfl | rfl <;> constructor <;> omega) (by have := HCut.out 0; unfold headS at this; simp at this ⊢; omega)).mono ?_
    rintro r W3 ⟨rfl, hw3⟩
    simp only []
    have A3 := Lib.hid ((A2.out.thenBelow hB2 ((Below.refl _ _).alloc (Nat.le_refl _) _)).wrote HXB.out hw3)
    have hB3 : B ≤ W3.heap.size := Nat.le_trans hB1 A3.out.below.size
    clear hw3 s1 s2
    have s3 : W3.cell? ⟨w.heap.size, 2, none⟩ = some (.slice ao a.tree.length ca) := by rw [row_cell A3.out.row, ← HCS.out]; rfl
    have HI : Hid (AInv B b w.heap.size cs w1 a (.int .i64 0) W3) := Lib.hid ⟨0, rfl, Nat.zero_le _, by
      have e : headS a ++ nodesS (a.tree.take 0) (a.stamps.take 0) = [] ++ [ver, a.pair].flatMap textS ++ [a.serial, (a.tree.length : Int)].flatMap numS := by
        unfold headS
        have : numS (a.tree.length : Int) = nm a.tree.length := by rw [numS_nat (by omega)]; simp
        simp [nodesS, this]
      rw [e]
      exact A3.out⟩
    obtain ⟨n, hnn⟩ : ∃ n, a.tree.length = n := ⟨_, rfl⟩
    have HN := Lib.hid hnn
    rw [hnn] at s3 hn
    have hnz : (n : Int) ≤ 1000 := by omega
    clear hnn
    repeat (first | go_skip | go_guarded | go_step | go_upon)
    go_loopw [23] (fun s23 wr => AInv B b w.heap.size cs w1 a s23 wr) (fun s23 _ => n - (Go.RowKit.intOf s23).toNat)
    case atStart => exact HI.out
    case round =>
      obtain ⟨k, rfl, hk, hw⟩ := hrel
      have HW := Lib.hid hw
      rw [HN.out] at hk
      have hBr : B ≤ wr.heap.size := Nat.le_trans hB1 hw.below.size
      clear hw s3
      by_cases hlt : k < n
      · have hkz : (k : Int) < n := by omega
        obtain ⟨x, hx⟩ : ∃ x, a.tree[k]? = some x := ⟨a.tree[k]'(by rw [HN.out]; exact hlt), List.getElem?_eq_getElem _⟩
        obtain ⟨y, hy⟩ : ∃ y, a.stamps[k]? = some y := ⟨a.stamps[k]'(by rw [HR.out.len, HN.out]; exact hlt), List.getElem?_eq_getElem _⟩
        have hok := node_ok HR.out HF.out (List.mem_of_getElem? hx) (List.mem_of_getElem? hy)
        have HOk := Lib.hid hok
        have HSn := Lib.hid (nodesS_snoc k _ _ _ _ hx hy)
        have HY := Lib.hid hy
        have b0r : Below W0.heap.size W0 wr := by
          have e1 := HBW.out
          have e2 := B1.out
          have e3 := HW.out.below
          rw [HB0.out] at e1 ⊢
          exact (e1.trans (e2.mono hBw)).trans e3
        obtain ⟨g, o, rfl, hg, hcell⟩ := (HLT.out.below b0r) (by rw [HN.out]; omega)
        obtain ⟨c0, c1, c2, c3⟩ := hcell k x hx
        obtain ⟨g', o', rfl, hg', hcell'⟩ := (HLM.out.below b0r) (by rw [HR.out.len, HN.out]; omega)
        have hsm := hcell' k y hy
        have HSm := Lib.hid hsm
        have HB0r := Lib.hid b0r
        unfold txt at c0 c2
        obtain ⟨X, hX⟩ : ∃ X : ByteArray, ⟨x.path.toArray⟩ = X := ⟨_, rfl⟩
        obtain ⟨D, hD⟩ : ∃ D : ByteArray, ⟨x.data.toArray⟩ = D := ⟨_, rfl⟩
        have HX := Lib.hid hX
        have HD := Lib.hid hD
        rw [hX] at c0
        rw [hD] at c2
        obtain ⟨wa, hwa⟩ : ∃ wa, wr.alloc (.cells #[.string X, .int .i64 x.kind, .string D, .int .i64 x.mode] 25) = wa := ⟨_, rfl⟩
        have bwa : Below wr.heap.size wr wa := by rw [← hwa]; exact (Below.refl _ _).alloc (Nat.le_refl _) _
        have rwa : wa.heap[wr.heap.size]? = some (.cells #[.string X, .int .i64 x.kind, .string D, .int .i64 x.mode] 25 (0, 0)) := by rw [← hwa]; exact heap_alloc_new wr _
        have A5 := Lib.hid (HW.out.thenBelow hBr bwa)
        have hBa : B ≤ wa.heap.size := Nat.le_trans hBr bwa.size
        have hxa : wr.heap.size ≠ b := fun e => by have := Is.lt HW.out.has; omega
        have HXA := Lib.hid hxa
        have HRW := Lib.hid rwa
        have d0 : wa.cell? ⟨wr.heap.size, 0, none⟩ = some (.string X) := by rw [row_cell rwa]; rfl
        have hwa9 : wa.heap.size ≤ wa.heap.size := Nat.le_refl _
        clear hcell hcell' hx hy hX hD hok b0r hsm hxa rwa hwa9
        have hwa0 : wa.heap.size ≤ wa.heap.size := Nat.le_refl _
        repeat (first | (go_at_call 67; fail) | go_skip | go_guarded | go_step | go_upon)
        refine (texts_any B b wa.heap.size 1 _ [x.path] _ (0, 0) _ (Is.below A5.out.has ((Below.refl _ _).alloc (Nat.le_refl _) _)) (by simp; omega) (heap_alloc_new _ _) (by rw [← HX.out]; exact one_cs x.path) (by simp) (by intro t ht; simp at ht; rw [ht]; have := HOk.out.pathL; omega) (by have h1 := HCut.out k; have h2 := (nodeS_len HOk.out).2; unfold nodeS at h2; simp only [List.length_append] at h1 h2 ⊢; omega)).mono ?_
        rintro r W6 ⟨rfl, hw9⟩
        simp only []
        have A6 := Lib.hid ((A5.out.thenBelow (Nat.le_trans hBa hwa0) ((Below.refl _ _).alloc (Nat.le_refl _) _)).wrote HXB.out hw9)
        have hW6 : wa.heap.size ≤ W6.heap.size := by have h1 := hw9.below.size; simp at h1; omega
        have HR6 := Lib.hid (kept_row hw9.kept ((Below.heap_alloc wa _ _ (Array.getElem?_eq_some_iff.1 HRW.out).1).trans HRW.out) (by decide) HXA.out)
        clear hw9
        obtain ⟨e1, e3⟩ : W6.cell? ⟨wr.heap.size, 1, none⟩ = some (.int .i64 x.kind) ∧ W6.cell? ⟨wr.heap.size, 3, none⟩ = some (.int .i64 x.mode) := by
          constructor <;> (rw [row_cell HR6.out]; rfl)
        clear d0
        repeat (first | (go_at_call 68; fail) | go_skip | go_guarded | go_step | go_upon)
        refine (numbers_any B b W6.heap.size 2 _ [x.kind, x.mode] _ (0, 0) _ (Is.below A6.out.has ((Below.refl _ _).alloc (Nat.le_refl _) _)) (by simp; omega) (heap_alloc_new _ _) (two_ns x.kind x.mode) (by simp) (by intro t ht; have := HOk.out.k0; have := HOk.out.k1; have := HOk.out.m0; have := HOk.out.m1; simp at ht; rcases ht with rfl | rfl <;> constructor <;> omega) (by have h1 := HCut.out k; have h2 := (nodeS_len HOk.out).2; unfold nodeS at h2; simp only [List.length_append, List.flatMap_cons, List.flatMap_nil, List.length_nil] at h1 h2 ⊢; omega)).mono ?_
        rintro r W7 ⟨rfl, hw9⟩
        simp only []
        have A7 := Lib.hid ((A6.out.thenBelow (Nat.le_trans hBa hW6) ((Below.refl _ _).alloc (Nat.le_refl _) _)).wrote HXB.out hw9)
        have hW7 : wa.heap.size ≤ W7.heap.size := by have h1 := hw9.below.size; simp at h1; omega
        have HR7 := Lib.hid (kept_row hw9.kept ((Below.heap_alloc W6 _ _ (Array.getElem?_eq_some_iff.1 HR6.out).1).trans HR6.out) (by decide) HXA.out)
        clear hw9
        have e2 : W7.cell? ⟨wr.heap.size, 2, none⟩ = some (.string D) := by rw [row_cell HR7.out]; rfl
        clear e1 e3
        repeat (first | (go_at_call 67; fail) | go_skip | go_guarded | go_step | go_upon)
        refine (texts_any B b W7.heap.size 1 _ [x.data] _ (0, 0) _ (Is.below A7.out.has ((Below.refl _ _).alloc (Nat.le_refl _) _)) (by simp; omega) (heap_alloc_new _ _) (by rw [← HD.out]; exact one_cs x.data) (by simp) (by intro t ht; simp at ht; rw [ht]; have := HOk.out.data; omega) (by have h1 := HCut.out k; have h2 := (nodeS_len HOk.out).2; unfold nodeS at h2; simp only [List.length_append, List.flatMap_cons, List.flatMap_nil, List.length_nil] at h1 h2 ⊢; omega)).mono ?_
        rintro r W8 ⟨rfl, hw9⟩
        simp only []
        have A8 := Lib.hid ((A7.out.thenBelow (Nat.le_trans hBa hW7) ((Below.refl _ _).alloc (Nat.le_refl _) _)).wrote HXB.out hw9)
        have hW8 : wa.heap.size ≤ W8.heap.size := by have h1 := hw9.below.size; simp at h1; omega
        clear hw9
        clear e2
        have s3 : W8.cell? ⟨w.heap.size, 3, none⟩ = some (.slice (some ⟨g', o', none⟩) a.stamps.length sc) := by rw [row_cell A8.out.row, ← HCS.out]; rfl
        have b08 : Below W0.heap.size W0 W8 := by
          have e1 := HBW.out
          have e2 := B1.out
          have e3 := A8.out.below
          rw [HB0.out] at e1 ⊢
          exact (e1.trans (e2.mono hBw)).trans e3
        obtain ⟨g2, o2, eg, _, hc2⟩ := (HLM.out.below b08) (by rw [HR.out.len, HN.out]; omega)
        obtain ⟨rfl, rfl⟩ : g' = g2 ∧ o' = o2 := by injection eg with eg; injection eg with e1 e2; exact ⟨e1, e2⟩
        obtain ⟨y0, y1, y2⟩ := hc2 k y HY.out
        have hsl : a.stamps.length = n := by rw [HR.out.len, HN.out]
        rw [hsl] at s3
        obtain ⟨wb, hwb⟩ : ∃ wb, W8.alloc (.cells #[.int .i64 y.ino, .int .i64 y.size, .int .i64 y.time] 67) = wb := ⟨_, rfl⟩
        have bwb : Below W8.heap.size W8 wb := by rw [← hwb]; exact (Below.refl _ _).alloc (Nat.le_refl _) _
        have rwb : wb.heap[W8.heap.size]? = some (.cells #[.int .i64 y.ino, .int .i64 y.size, .int .i64 y.time] 67 (0, 0)) := by rw [← hwb]; exact heap_alloc_new W8 _
        have A9 := Lib.hid (A8.out.thenBelow (Nat.le_trans hBa hW8) bwb)
        have hwb9 : wa.heap.size ≤ wb.heap.size := Nat.le_trans hW8 bwb.size
        obtain ⟨f0, f1, f2⟩ : wb.cell? ⟨W8.heap.size, 0, none⟩ = some (.int .i64 y.ino) ∧ wb.cell? ⟨W8.heap.size, 1, none⟩ = some (.int .i64 y.size) ∧ wb.cell? ⟨W8.heap.size, 2, none⟩ = some (.int .i64 y.time) := by
          refine ⟨?_, ?_, ?_⟩ <;> (rw [row_cell rwb]; rfl)
        clear hc2 b08 eg hsl rwb
        repeat (first | (go_at_call 68; fail) | go_skip | go_guarded | go_step | go_upon)
        refine (numbers_any B b wb.heap.size 3 _ [y.ino, y.size, y.time] _ (0, 0) _ (Is.below A9.out.has ((Below.refl _ _).alloc (Nat.le_refl _) _)) (by simp; omega) (heap_alloc_new _ _) (three_ns y.ino y.size y.time) (by simp) (by intro t ht; have := HOk.out.s0; have := HOk.out.s1; simp at ht; rcases ht with rfl | rfl | rfl <;> constructor <;> omega) (by have h1 := HCut.out k; have h2 := (nodeS_len HOk.out).2; unfold nodeS at h2; simp only [List.length_append, List.flatMap_cons, List.flatMap_nil, List.length_nil] at h1 h2 ⊢; omega)).mono ?_
        rintro r W10 ⟨rfl, hw9⟩
        simp only []
        have A10 := Lib.hid ((A9.out.thenBelow (Nat.le_trans hBa hwb9) ((Below.refl _ _).alloc (Nat.le_refl _) _)).wrote HXB.out hw9)
        have hW10 : wa.heap.size ≤ W10.heap.size := by have h1 := hw9.below.size; simp at h1; omega
        clear hw9
        clear f0 f1 f2 y0 y1 y2 s3
        repeat (first | go_skip | go_guarded | go_step | go_upon)
        refine ⟨⟨k + 1, by go_num, by rw [HN.out]; omega, ?_⟩, by simp [Go.RowKit.intOf]; omega⟩
        have e : headS a ++ nodesS (a.tree.take (k + 1)) (a.stamps.take (k + 1)) = headS a ++ nodesS (a.tree.take k) (a.stamps.take k) ++ [x.path].flatMap textS ++ [x.kind, x.mode].flatMap numS ++ [x.data].flatMap textS ++ [y.ino, y.size, y.time].flatMap numS := by
          rw [HSn.out]
          unfold nodeS
          simp
        rw [e]
        exact A10.out
      · have hkz : ¬ (k : Int) < n := by omega
        have hkn : k = n := by omega
        subst hkn
        clear hlt
        repeat (first | go_skip | go_guarded | go_step | go_upon)
        go_end0
        have h9 := HW.out
        rw [List.take_of_length_le (by rw [HN.out]; exact Nat.le_refl _), List.take_of_length_le (by rw [HR.out.len, HN.out]; exact Nat.le_refl _), ← pay_head] at h9
        exact ⟨rfl, h9.has, (B1.out.mono hBw).trans h9.below, (kept_below B1.out).trans h9.kept⟩
  rw [← hcs] at hgoal
  unfold arV
  rw [hB]
  exact hgoal
end AW
end Go.Proofs.YtfkaackhikbbkaaGreatDoor
