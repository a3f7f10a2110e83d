/- DiskReads answers true for every list of nodes and every list of calls; they read behind the call as they read before. Condition: Go's two tables utf8.first and utf8.acceptRanges lie as Go's text lays them (tied to that text). -/
import Derived.Test.YtjkikkpbeceeeaaGreatDoorMg4
import Derived.Test.YtjkikkpbeceeeaaGreatDoorDkArg
import Derived.Test.YtjkikkpbeceeeaaGreatDoorQHold
import Derived.Test.YtjkikkpbeceeeaaGreatDoorTreeRef4
import Derived.Test.YtjkikkpbeceeeaaGreatDoorKit
import Derived.Test.YtjkikkpbeceeeaaGreatDoorCards
import Derived.Test.YtjkikkpbeceeeaaGreatDoorTie
section
/- Layer 7: what the statements' ask answers, over lists; what it leaves in memory. -/
namespace Go.Proofs.YtjkikkpbeceeeaaGreatDoor
open Go.RowKit Go.Lib Go.BigFrame
namespace DG
open OM TP TM DP DM TG TR FP

structure Cal where
  what : Int
  path : List UInt8
  dest : List UInt8
  data : List UInt8
  mode : Int
/-- What is answered: an error, a node, a stamp, texts. -/
structure Ans where
  err : Int
  node : Nd
  stamp : Stamp
  texts : List (List UInt8)
def errA (e : Int) : Ans := ⟨e, nodeZ, stampZ, []⟩
def askD (D : Dk) (c : Cal) : Dk × Ans :=
  if c.what = 0 then ((writeD D c.path c.data c.mode).1, errA (writeD D c.path c.data c.mode).2)
  else if c.what = 1 then ((mkdirD D c.path).1, errA (mkdirD D c.path).2)
  else if c.what = 2 then ((linkD D c.path c.dest).1, errA (linkD D c.path c.dest).2)
  else if c.what = 3 then ((removeD D c.path).1, errA (removeD D c.path).2)
  else if c.what = 4 then ((moveD D c.path c.dest).1, errA (moveD D c.path c.dest).2)
  else if c.what = 5 then ((replaceD D c.path c.dest).1, errA (replaceD D c.path c.dest).2)
  else if c.what = 6 then ((syncD D c.path).1, errA (syncD D c.path).2)
  else if c.what = 7 then ((flushD D).1, errA (flushD D).2)
  else if c.what = 8 then ((getD D c.path).1, ⟨(getD D c.path).2.2.2, (getD D c.path).2.1, (getD D c.path).2.2.1, []⟩)
  else if c.what = 9 then ((namesR D c.path).1, ⟨(namesR D c.path).2, nodeZ, stampZ, lastsR (namesR D c.path) c.path⟩)
  else if c.what = 10 then (bootD D [] [], errA 0)
  else (D, errA 0)
def calV (c : Cal) : Value := .agg #[.int .i64 c.what, txt c.path, txt c.dest, txt c.data, .int .i64 c.mode]
def AskPost (w W : World) (S : Nat → Prop) (P m : Nat) (Z : Dk × Ans) (r : Ending) (W' : World) : Prop :=
  ∃ v, r = .returned (.tuple #[.int .i64 Z.2.err, ndVal Z.2.node, stampVal Z.2.stamp, v]) ∧ W'.ownsRow W.heap.size 9 1 v Z.2.texts.length (Z.2.texts.map txt) ∧ AftN w W S P m Z.1 v W'
theorem results_ask {fn : Func} {o p q u : Tmp} {ty ty2 : TypeId} (h : fn.results = #[.tmp o, .cell p ty, .cell q ty2, .tmp u]) (tmps : Array Value) (P : Program) (w : World) :
    (results fn tmps).run P w = ((asAddr (tmps.getD p undef)).run P w).andThen fun a w₁ => ((loadVar ty a).run P w₁).andThen fun v w₂ => ((asAddr (tmps.getD q undef)).run P w₂).andThen fun b w₃ => ((loadVar ty2 b).run P w₃).andThen fun v2 w₄ => .ok (.tuple #[tmps.getD o undef, v, v2, tmps.getD u undef]) w₄ := by
  simp only [results, h]
  simp [Sem.run_bind, Result.andThen]
theorem row5c {W : World} {b : Nat} {a0 a1 a2 a3 a4 : Value} {t : TypeId} (h : W.heap[b]? = some (.cells #[a0, a1, a2, a3, a4] t (0, 0))) :
    W.cell? ⟨b, 0, none⟩ = some a0 ∧ W.cell? ⟨b, 1, none⟩ = some a1 ∧ W.cell? ⟨b, 2, none⟩ = some a2 ∧ W.cell? ⟨b, 3, none⟩ = some a3 ∧ W.cell? ⟨b, 4, none⟩ = some a4 ∧ ∀ j, W.frozen? ⟨b, j, none⟩ = false :=
  ⟨by rw [cell_of_row W b 0 _ _ _ h]; rfl, by rw [cell_of_row W b 1 _ _ _ h]; rfl, by rw [cell_of_row W b 2 _ _ _ h]; rfl, by rw [cell_of_row W b 3 _ _ _ h]; rfl, by rw [cell_of_row W b 4 _ _ _ h]; rfl, fun j => frozen_of_row W b j _ _ h⟩
/-- The five blocks that ask begins with: the call, the results, its own node and stamp. -/
def ask5 (W : World) (k m : Int) (X Y V : ByteArray) : World :=
  ((((W.alloc (.cells #[.int .i64 k, .string X, .string Y, .string V, .int .i64 m] 43)).alloc (.cells #[.string ⟨#[]⟩, .int .i64 0, .string ⟨#[]⟩, .int .i64 0] 45)).alloc (.cells #[.int .i64 0, .int .i64 0, .int .i64 0] 47)).alloc (.cells #[.string ⟨#[]⟩, .int .i64 0, .string ⟨#[]⟩, .int .i64 0] 45)).alloc (.cells #[.int .i64 0, .int .i64 0, .int .i64 0] 47)
structure Ask5 (W W5 : World) (k m : Int) (X Y V : ByteArray) : Prop where
  bel : Below W.heap.size W W5
  size : W.heap.size + 5 ≤ W5.heap.size
  r0 : W5.heap[W.heap.size]? = some (.cells #[.int .i64 k, .string X, .string Y, .string V, .int .i64 m] 43 (0, 0))
  r1 : W5.heap[W.heap.size + 1]? = some (.cells #[.string ⟨#[]⟩, .int .i64 0, .string ⟨#[]⟩, .int .i64 0] 45 (0, 0))
  r2 : W5.heap[W.heap.size + 1 + 1]? = some (.cells #[.int .i64 0, .int .i64 0, .int .i64 0] 47 (0, 0))
  r3 : W5.heap[W.heap.size + 1 + 1 + 1]? = some (.cells #[.string ⟨#[]⟩, .int .i64 0, .string ⟨#[]⟩, .int .i64 0] 45 (0, 0))
  r4 : W5.heap[W.heap.size + 1 + 1 + 1 + 1]? = some (.cells #[.int .i64 0, .int .i64 0, .int .i64 0] 47 (0, 0))
theorem ask5_is (W : World) (k m : Int) (X Y V : ByteArray) : Ask5 W (ask5 W k m X Y V) k m X Y V := by
  unfold ask5
  obtain ⟨w1, h1⟩ : ∃ w, W.alloc (.cells #[.int .i64 k, .string X, .string Y, .string V, .int .i64 m] 43) = w := ⟨_, rfl⟩
  have a1 := heap_alloc_new W (.cells #[.int .i64 k, .string X, .string Y, .string V, .int .i64 m] 43)
  have z1 : w1.heap.size = W.heap.size + 1 := by rw [← h1]; simp
  have b1 : Below W.heap.size W w1 := by rw [← h1]; exact (Below.refl _ _).alloc (Nat.le_refl _) _
  rw [h1] at a1 ⊢
  obtain ⟨w2, h2⟩ : ∃ w, w1.alloc (.cells #[.string ⟨#[]⟩, .int .i64 0, .string ⟨#[]⟩, .int .i64 0] 45) = w := ⟨_, rfl⟩
  have a2 := heap_alloc_new w1 (.cells #[.string ⟨#[]⟩, .int .i64 0, .string ⟨#[]⟩, .int .i64 0] 45)
  have z2 : w2.heap.size = w1.heap.size + 1 := by rw [← h2]; simp
  have b2 : Below w1.heap.size w1 w2 := by rw [← h2]; exact (Below.refl _ _).alloc (Nat.le_refl _) _
  rw [h2] at a2 ⊢
  obtain ⟨w3, h3⟩ : ∃ w, w2.alloc (.cells #[.int .i64 0, .int .i64 0, .int .i64 0] 47) = w := ⟨_, rfl⟩
  have a3 := heap_alloc_new w2 (.cells #[.int .i64 0, .int .i64 0, .int .i64 0] 47)
  have z3 : w3.heap.size = w2.heap.size + 1 := by rw [← h3]; simp
  have b3 : Below w2.heap.size w2 w3 := by rw [← h3]; exact (Below.refl _ _).alloc (Nat.le_refl _) _
  rw [h3] at a3 ⊢
  obtain ⟨w4, h4⟩ : ∃ w, w3.alloc (.cells #[.string ⟨#[]⟩, .int .i64 0, .string ⟨#[]⟩, .int .i64 0] 45) = w := ⟨_, rfl⟩
  have a4 := heap_alloc_new w3 (.cells #[.string ⟨#[]⟩, .int .i64 0, .string ⟨#[]⟩, .int .i64 0] 45)
  have z4 : w4.heap.size = w3.heap.size + 1 := by rw [← h4]; simp
  have b4 : Below w3.heap.size w3 w4 := by rw [← h4]; exact (Below.refl _ _).alloc (Nat.le_refl _) _
  rw [h4] at a4 ⊢
  obtain ⟨w5, h5⟩ : ∃ w, w4.alloc (.cells #[.int .i64 0, .int .i64 0, .int .i64 0] 47) = w := ⟨_, rfl⟩
  have a5 := heap_alloc_new w4 (.cells #[.int .i64 0, .int .i64 0, .int .i64 0] 47)
  have z5 : w5.heap.size = w4.heap.size + 1 := by rw [← h5]; simp
  have b5 : Below w4.heap.size w4 w5 := by rw [← h5]; exact (Below.refl _ _).alloc (Nat.le_refl _) _
  rw [h5] at a5 ⊢
  have c4 := (b5.block w3.heap.size (by omega)).trans a4
  have c3 := (b5.block w2.heap.size (by omega)).trans ((b4.block w2.heap.size (by omega)).trans a3)
  have c2 := (b5.block w1.heap.size (by omega)).trans ((b4.block w1.heap.size (by omega)).trans ((b3.block w1.heap.size (by omega)).trans a2))
  have c1 := (b5.block W.heap.size (by omega)).trans ((b4.block W.heap.size (by omega)).trans ((b3.block W.heap.size (by omega)).trans ((b2.block W.heap.size (by omega)).trans a1)))
  refine ⟨Below.trans b1 (Below.trans (b2.mono (by omega)) (Below.trans (b3.mono (by omega)) (Below.trans (b4.mono (by omega)) (b5.mono (by omega))))), by omega, c1, ?_, ?_, ?_, ?_⟩
  · rw [show W.heap.size + 1 = w1.heap.size by omega]; exact c2
  · rw [show W.heap.size + 1 + 1 = w2.heap.size by omega]; exact c3
  · rw [show W.heap.size + 1 + 1 + 1 = w3.heap.size by omega]; exact c4
  · rw [show W.heap.size + 1 + 1 + 1 + 1 = w4.heap.size by omega]; exact a5
theorem DS.mono {w W : World} {S : Nat → Prop} {P m n : Nat} {D : Dk} (h : DS w W S P m D) (hm : m ≤ n) : DS w W S P n D := ⟨h.disk, h.lo, h.pl, h.bel, h.num.mono hm⟩
theorem out_ask7 (w : World) (n : Nat) (v0 v1 v2 v3 v4 v5 v6 : Value) : Out (fun k => n + 1 ≤ k ∧ k ≤ n + 4) w (((((((w.setCell ⟨n + 1, 0, none⟩ v0).setCell ⟨n + 1, 1, none⟩ v1).setCell ⟨n + 1, 2, none⟩ v2).setCell ⟨n + 1, 3, none⟩ v3).setCell ⟨n + 1 + 1, 0, none⟩ v4).setCell ⟨n + 1 + 1, 1, none⟩ v5).setCell ⟨n + 1 + 1, 2, none⟩ v6).drew := ((((((((Out.refl _ w).setCell (p := ⟨n + 1, 0, none⟩) (fun _ => ⟨by show n + 1 ≤ n + 1; omega, by show n + 1 ≤ n + 4; omega⟩) _).setCell (p := ⟨n + 1, 1, none⟩) (fun _ => ⟨by show n + 1 ≤ n + 1; omega, by show n + 1 ≤ n + 4; omega⟩) _).setCell (p := ⟨n + 1, 2, none⟩) (fun _ => ⟨by show n + 1 ≤ n + 1; omega, by show n + 1 ≤ n + 4; omega⟩) _).setCell (p := ⟨n + 1, 3, none⟩) (fun _ => ⟨by show n + 1 ≤ n + 1; omega, by show n + 1 ≤ n + 4; omega⟩) _).setCell (p := ⟨n + 1 + 1, 0, none⟩) (fun _ => ⟨by show n + 1 ≤ n + 1 + 1; omega, by show n + 1 + 1 ≤ n + 4; omega⟩) _).setCell (p := ⟨n + 1 + 1, 1, none⟩) (fun _ => ⟨by show n + 1 ≤ n + 1 + 1; omega, by show n + 1 + 1 ≤ n + 4; omega⟩) _).setCell (p := ⟨n + 1 + 1, 2, none⟩) (fun _ => ⟨by show n + 1 ≤ n + 1 + 1; omega, by show n + 1 + 1 ≤ n + 4; omega⟩) _).drew
theorem out_ask14 (w : World) (n : Nat) (v0 v1 v2 v3 v4 v5 v6 v7 v8 v9 v10 v11 v12 v13 : Value) : Out (fun k => n + 1 ≤ k ∧ k ≤ n + 4) w ((((((((((((((w.setCell ⟨n + 1 + 1 + 1, 0, none⟩ v0).setCell ⟨n + 1 + 1 + 1, 1, none⟩ v1).setCell ⟨n + 1 + 1 + 1, 2, none⟩ v2).setCell ⟨n + 1 + 1 + 1, 3, none⟩ v3).setCell ⟨n + 1 + 1 + 1 + 1, 0, none⟩ v4).setCell ⟨n + 1 + 1 + 1 + 1, 1, none⟩ v5).setCell ⟨n + 1 + 1 + 1 + 1, 2, none⟩ v6).setCell ⟨n + 1, 0, none⟩ v7).setCell ⟨n + 1, 1, none⟩ v8).setCell ⟨n + 1, 2, none⟩ v9).setCell ⟨n + 1, 3, none⟩ v10).setCell ⟨n + 1 + 1, 0, none⟩ v11).setCell ⟨n + 1 + 1, 1, none⟩ v12).setCell ⟨n + 1 + 1, 2, none⟩ v13).drew := (((((((((((((((Out.refl _ w).setCell (p := ⟨n + 1 + 1 + 1, 0, none⟩) (fun _ => ⟨by show n + 1 ≤ n + 1 + 1 + 1; omega, by show n + 1 + 1 + 1 ≤ n + 4; omega⟩) _).setCell (p := ⟨n + 1 + 1 + 1, 1, none⟩) (fun _ => ⟨by show n + 1 ≤ n + 1 + 1 + 1; omega, by show n + 1 + 1 + 1 ≤ n + 4; omega⟩) _).setCell (p := ⟨n + 1 + 1 + 1, 2, none⟩) (fun _ => ⟨by show n + 1 ≤ n + 1 + 1 + 1; omega, by show n + 1 + 1 + 1 ≤ n + 4; omega⟩) _).setCell (p := ⟨n + 1 + 1 + 1, 3, none⟩) (fun _ => ⟨by show n + 1 ≤ n + 1 + 1 + 1; omega, by show n + 1 + 1 + 1 ≤ n + 4; omega⟩) _).setCell (p := ⟨n + 1 + 1 + 1 + 1, 0, none⟩) (fun _ => ⟨by show n + 1 ≤ n + 1 + 1 + 1 + 1; omega, by show n + 1 + 1 + 1 + 1 ≤ n + 4; omega⟩) _).setCell (p := ⟨n + 1 + 1 + 1 + 1, 1, none⟩) (fun _ => ⟨by show n + 1 ≤ n + 1 + 1 + 1 + 1; omega, by show n + 1 + 1 + 1 + 1 ≤ n + 4; omega⟩) _).setCell (p := ⟨n + 1 + 1 + 1 + 1, 2, none⟩) (fun _ => ⟨by show n + 1 ≤ n + 1 + 1 + 1 + 1; omega, by show n + 1 + 1 + 1 + 1 ≤ n + 4; omega⟩) _).setCell (p := ⟨n + 1, 0, none⟩) (fun _ => ⟨by show n + 1 ≤ n + 1; omega, by show n + 1 ≤ n + 4; omega⟩) _).setCell (p := ⟨n + 1, 1, none⟩) (fun _ => ⟨by show n + 1 ≤ n + 1; omega, by show n + 1 ≤ n + 4; omega⟩) _).setCell (p := ⟨n + 1, 2, none⟩) (fun _ => ⟨by show n + 1 ≤ n + 1; omega, by show n + 1 ≤ n + 4; omega⟩) _).setCell (p := ⟨n + 1, 3, none⟩) (fun _ => ⟨by show n + 1 ≤ n + 1; omega, by show n + 1 ≤ n + 4; omega⟩) _).setCell (p := ⟨n + 1 + 1, 0, none⟩) (fun _ => ⟨by show n + 1 ≤ n + 1 + 1; omega, by show n + 1 + 1 ≤ n + 4; omega⟩) _).setCell (p := ⟨n + 1 + 1, 1, none⟩) (fun _ => ⟨by show n + 1 ≤ n + 1 + 1; omega, by show n + 1 + 1 ≤ n + 4; omega⟩) _).setCell (p := ⟨n + 1 + 1, 2, none⟩) (fun _ => ⟨by show n + 1 ≤ n + 1 + 1; omega, by show n + 1 + 1 ≤ n + 4; omega⟩) _).drew
/-- Behind the call: its blocks are as they were. -/
theorem Ask5.keep {W W5 W6 : World} {k m : Int} {X Y V : ByteArray} {w : World} {S : Nat → Prop} {P n : Nat} {D : Dk} (h : Ask5 W W5 k m X Y V) (hd : DS w W S P n D) (ho : Out (fun k => S k ∨ k = P) W5 W6) :
    W6.heap[W.heap.size + 1]? = some (.cells #[.string ⟨#[]⟩, .int .i64 0, .string ⟨#[]⟩, .int .i64 0] 45 (0, 0)) ∧ W6.heap[W.heap.size + 1 + 1]? = some (.cells #[.int .i64 0, .int .i64 0, .int .i64 0] 47 (0, 0)) ∧
    W6.heap[W.heap.size + 1 + 1 + 1]? = some (.cells #[.string ⟨#[]⟩, .int .i64 0, .string ⟨#[]⟩, .int .i64 0] 45 (0, 0)) ∧ W6.heap[W.heap.size + 1 + 1 + 1 + 1]? = some (.cells #[.int .i64 0, .int .i64 0, .int .i64 0] 47 (0, 0)) := by
  obtain ⟨h1, h2⟩ := hd.lt
  have hn : ∀ j, W.heap.size ≤ j → ¬ (S j ∨ j = P) := fun j hj hh => by
    rcases hh with hh | hh
    · have := h2 j hh; omega
    · omega
  exact ⟨ho.row h.r1 (hn _ (by omega)), ho.row h.r2 (hn _ (by omega)), ho.row h.r3 (hn _ (by omega)), ho.row h.r4 (hn _ (by omega))⟩
theorem ask_done {w W W5 W6 W7 : World} {S S6 : Nat → Prop} {P n n' : Nat} {D D' : Dk} {v : Value} (h : DS w W S P n D) (hb : Below W.heap.size W W5) (hz : W.heap.size + 5 ≤ W5.heap.size) (h6 : DS w W6 S6 P n' D') (hs : ∀ k, S6 k → S k ∨ W5.heap.size ≤ k) (ho : Out (fun k => S k ∨ k = P) W5 W6)
    (ho7 : Out (fun k => W.heap.size + 1 ≤ k ∧ k ≤ W.heap.size + 4) W6 W7) (hv : ∀ g, v.ownBlock = some g → ¬ S6 g ∧ g ≠ P) : AftN w W S P n' D' v W7 := by
  obtain ⟨h1, h2⟩ := h.lt
  have hb0 := h.bel.size
  refine ⟨S6, h6.out ho7 (fun k hk => ⟨fun hh => ?_, by omega, by omega⟩), fun k hk => (hs k hk).imp id (fun hh => by omega), ?_, hv⟩
  · rcases hs k hh with h3 | h3
    · have := h2 k h3; omega
    · omega
  · exact (((Out.refl _ W).thenBelow hb).then ho (fun j _ hj => hj)).then ho7 (fun j hj hk => by omega)
end DG
end Go.Proofs.YtjkikkpbeceeeaaGreatDoor
end

section
/- Layer 7: a list of calls in memory, and out of the arguments. -/
namespace Go.Proofs.YtjkikkpbeceeeaaGreatDoor
open Go.RowKit Go.Lib
namespace DG
open OM TP TM DP DM

structure CalAt (W : World) (g o : Nat) (c : Cal) : Prop where
  w : W.cell? ⟨g, o, none⟩ = some (.int .i64 c.what)
  p : W.cell? ⟨g, o + 1, none⟩ = some (txt c.path)
  q : W.cell? ⟨g, o + 2, none⟩ = some (txt c.dest)
  d : W.cell? ⟨g, o + 3, none⟩ = some (txt c.data)
  m : W.cell? ⟨g, o + 4, none⟩ = some (.int .i64 c.mode)
def LayC (W : World) (ao : Option Addr) (cs : List Cal) : Prop :=
  0 < cs.length → ∃ g o, ao = some ⟨g, o, none⟩ ∧ g < W.heap.size ∧ ∀ (k : Nat) (c : Cal), cs[k]? = some c → CalAt W g (o + k * 5) c
theorem LayC.below {W W' : World} {B : Nat} {ao : Option Addr} {cs : List Cal} (h : LayC W ao cs) (hb : Below B W W') (hB : B = W.heap.size) : LayC W' ao cs := fun h0 => by
  subst hB
  obtain ⟨g, o, rfl, hg, hc⟩ := h h0
  refine ⟨g, o, rfl, Nat.lt_of_lt_of_le hg hb.size, fun k c hk => ?_⟩
  obtain ⟨a, b, d, e, f⟩ := hc k c hk
  have s : ∀ j, W'.cell? ⟨g, j, none⟩ = W.cell? ⟨g, j, none⟩ := fun j => hb.cell (p := ⟨g, j, none⟩) hg
  exact ⟨(s _).trans a, (s _).trans b, (s _).trans d, (s _).trans e, (s _).trans f⟩
/-- Their paths are texts. -/
def LongC (cs : List Cal) : Prop := ∀ c ∈ cs, c.path.length ≤ maxLen ∧ c.dest.length ≤ maxLen
end DG
open Go.ChangeShapes Go.WideShapes Go.ChangeAt
namespace DA
open OM TP TM DG
section
open Go.Deep
variable {H : Type} {enc : TypeId × Value → H} {P : Program} {w : World} {base : Nat} {spare : Nat → Bool} {held : Bool}
/-- A list of structs of five one-cell fields: the cells of each. -/
theorem open_fives {t e : TypeId} {f0 f1 f2 f3 f4 : Field} {fuel : Nat} {cs : List Value} {x : DataW H × List MemPlace} (ht : P.underlying t = some (.slice e)) (he : P.underlying e = some (.struct #[f0, f1, f2, f3, f4]))
    (ce : P.cellsOf e = 5) (o0 : f0.offset = 0) (o1 : f1.offset = 1) (o2 : f2.offset = 2) (o3 : f3.offset = 3) (o4 : f4.offset = 4) (c0 : P.cellsOf f0.type = 1) (c1 : P.cellsOf f1.type = 1) (c2 : P.cellsOf f2.type = 1) (c3 : P.cellsOf f3.type = 1) (c4 : P.cellsOf f4.type = 1)
    (h : DataW.trod enc P w base spare held fuel t cs = some x) :
    cs = [.slice none 0 0] ∨
    ∃ (a : Addr) (len cap n : Nat) (D : Nat → DataW H) (sp : List (DataW H)), cs = [.slice (some a) len cap] ∧ len ≤ cap ∧ cap ≤ maxLen ∧ x.1 = .slice ((List.range len).map D) sp ∧
      ∀ i, i < len → ∃ (v0 v1 v2 v3 v4 : Value) (y0 y1 y2 y3 y4 : DataW H × List MemPlace), w.cell? (a.add (i * 5)) = some v0 ∧ w.cell? (a.add (i * 5 + 1)) = some v1 ∧ w.cell? (a.add (i * 5 + 2)) = some v2 ∧ w.cell? (a.add (i * 5 + 3)) = some v3 ∧ w.cell? (a.add (i * 5 + 4)) = some v4 ∧
        D i = .agg [y0.1, y1.1, y2.1, y3.1, y4.1] ∧
        DataW.trod enc P w base spare held n f0.type [v0] = some y0 ∧ DataW.trod enc P w base spare held n f1.type [v1] = some y1 ∧ DataW.trod enc P w base spare held n f2.type [v2] = some y2 ∧ DataW.trod enc P w base spare held n f3.type [v3] = some y3 ∧ DataW.trod enc P w base spare held n f4.type [v4] = some y4 := by
  rcases open_slice ht h with h0 | ⟨a, len, cap, m, n, D, Pl, rfl, hb, hl, hm, hmm, rfl, hx⟩
  · exact Or.inl h0.1
  right
  have hlm : len ≤ m := by rw [hmm]; split <;> omega
  refine ⟨a, len, cap, n - 1, D, _, rfl, hl, hm, rfl, fun i hi => ?_⟩
  obtain ⟨cs', h1, h2⟩ := hx i (by omega)
  rw [ce] at h1
  obtain ⟨_, hlen, hcell⟩ := World.cells?_some h1
  obtain ⟨xs, k, hk, hxy, _, hxl, hf⟩ := DataW.trod_struct he h2
  have hk' : k = n - 1 := by omega
  subst hk'
  match xs, hxl, cs', hlen with
  | [y0, y1, y2, y3, y4], _, [v0, v1, v2, v3, v4], _ =>
    have g0 := hf 0 f0 rfl
    have g1 := hf 1 f1 rfl
    have g2 := hf 2 f2 rfl
    have g3 := hf 3 f3 rfl
    have g4 := hf 4 f4 rfl
    simp [o0, o1, o2, o3, o4, c0, c1, c2, c3, c4] at g0 g1 g2 g3 g4
    have e0 := hcell 0 (by omega)
    have e1 := hcell 1 (by omega)
    have e2 := hcell 2 (by omega)
    have e3 := hcell 3 (by omega)
    have e4 := hcell 4 (by omega)
    rw [add_add] at e0 e1 e2 e3 e4
    simp only [Prod.mk.injEq] at hxy
    exact ⟨v0, v1, v2, v3, v4, y0, y1, y2, y3, y4, by simpa using e0, by simpa using e1, by simpa using e2, by simpa using e3, by simpa using e4, hxy.1, g0, g1, g2, g3, g4⟩
end
theorem add_pl (b off k : Nat) : (⟨b, off, none⟩ : Addr).add k = ⟨b, off + k, none⟩ := by unfold Addr.add; split <;> simp_all
set_option maxRecDepth 100000 in
theorem calls_arg {H : Type} {enc : TypeId × Value → H} {W : World} {spare : Nat → Bool} {held : Bool} {fuel len cap : Nat} {a0 : Option Addr} {x : DataW H × List MemPlace}
    (h : DataW.trod enc Tryz.prog W 0 spare held fuel 27 (Value.slice a0 len cap).cells.toList = some x) :
    ∃ cs : List Cal, cs.length = len ∧ len ≤ cap ∧ len ≤ maxLen ∧ LayC W a0 cs ∧ LongC cs := by
  rcases open_fives Tryz.underlying27 Tryz.underlying43 (by kernel_rfl) rfl rfl rfl rfl rfl (by kernel_rfl) (by kernel_rfl) (by kernel_rfl) (by kernel_rfl) (by kernel_rfl) h with hcs | ⟨ad, len', cap', n, D, sp, hcs, hl, hm, hx, hcell⟩
  · simp [Value.cells] at hcs
    obtain ⟨rfl, rfl, rfl⟩ := hcs
    exact ⟨[], rfl, Nat.le_refl _, Nat.zero_le _, fun h0 => absurd h0 (by simp), fun c hc => by cases hc⟩
  · simp [Value.cells] at hcs
    obtain ⟨rfl, rfl, rfl⟩ := hcs
    have hlen : len ≤ maxLen := Nat.le_trans hl hm
    have hch : ∀ i, i < len → ∃ r : Cal, W.cell? (ad.add (i * 5)) = some (.int .i64 r.what) ∧ W.cell? (ad.add (i * 5 + 1)) = some (txt r.path) ∧ W.cell? (ad.add (i * 5 + 2)) = some (txt r.dest) ∧ W.cell? (ad.add (i * 5 + 3)) = some (txt r.data) ∧ W.cell? (ad.add (i * 5 + 4)) = some (.int .i64 r.mode) ∧ r.path.length ≤ maxLen ∧ r.dest.length ≤ maxLen := by
      intro i hi
      obtain ⟨v0, v1, v2, v3, v4, y0, y1, y2, y3, y4, e0, e1, e2, e3, e4, hD, t0, t1, t2, t3, t4⟩ := hcell i hi
      obtain ⟨k0, f0, _, _⟩ := DataW.trod_int (by exact Tryz.underlying3) t0
      obtain ⟨s1, f1, g1, w1⟩ := DataW.trod_string (by exact Tryz.underlying9) t1
      obtain ⟨s2, f2, g2, w2⟩ := DataW.trod_string (by exact Tryz.underlying9) t2
      obtain ⟨s3, f3, g3, w3⟩ := DataW.trod_string (by exact Tryz.underlying9) t3
      obtain ⟨k4, f4, _, _⟩ := DataW.trod_int (by exact Tryz.underlying3) t4
      simp only [List.cons.injEq, and_true] at f0 f1 f2 f3 f4
      exact ⟨⟨k0, s1.data.toList, s2.data.toList, s3.data.toList, k4⟩, by rw [e0, f0], by rw [e1, f1, txt_data], by rw [e2, f2, txt_data], by rw [e3, f3, txt_data], by rw [e4, f4], by show s1.data.toList.length ≤ _; rw [← Lib.size_eq]; exact w1, by show s2.data.toList.length ≤ _; rw [← Lib.size_eq]; exact w2⟩
    haveI : Inhabited Cal := ⟨⟨0, [], [], [], 0⟩⟩
    obtain ⟨R, hR⟩ := Deep.choose_lt hch
    have hrl : ((List.range len).map R).length = len := by simp
    refine ⟨(List.range len).map R, hrl, hl, hlen, fun h0 => ?_, fun c hc => ?_⟩
    · rw [hrl] at h0
      obtain ⟨b, off, spot⟩ := ad
      have c0 := (hR 0 (by omega)).1
      have hspot : spot = none := by simpa [Addr.add] using World.cell?_spot c0
      subst hspot
      rw [add_pl] at c0
      refine ⟨b, off, rfl, (World.block_lt_of_cell? _ _ c0 :), fun k r hk => ?_⟩
      have hkl : k < len := by have := (List.getElem?_eq_some_iff.1 hk).1; rw [hrl] at this; exact this
      rw [List.getElem?_map, List.getElem?_range hkl] at hk
      simp only [Option.map_some, Option.some.injEq] at hk
      subst hk
      obtain ⟨d0, d1, d2, d3, d4, _⟩ := hR k hkl
      rw [add_pl] at d0 d1 d2 d3 d4
      exact ⟨d0, by rw [← d1, Nat.add_assoc], by rw [← d2, Nat.add_assoc], by rw [← d3, Nat.add_assoc], by rw [← d4, Nat.add_assoc]⟩
    · obtain ⟨i, hi, rfl⟩ := List.mem_map.1 hc
      have := hR i (List.mem_range.1 hi)
      exact this.2.2.2.2.2
end DA
end Go.Proofs.YtjkikkpbeceeeaaGreatDoor
end

section
/- Layer 7 over lists: a file that is written beside, synced, and put in the place of another one. -/
namespace Go.Proofs.YtjkikkpbeceeeaaGreatDoor
open Go.RowKit Go.Lib Go.BigFrame
namespace DG
open OM TP TM DP DM TG TR FP

/-- A step of a disk that is on, without edits, with one fate: a crash. -/
theorem step_one (D : Dk) (c : Did) (at_ keep torn : Int) (h0 : D.off = false) (h1 : D.edits = []) (h2 : D.fates = [⟨at_, 3, keep, torn⟩]) :
    stepD D c = if at_ = (D.trace.length : Int) then (crashD { D with clock := D.clock + 1, trace := D.trace ++ [c] } keep torn, 75) else ({ D with clock := D.clock + 1, trace := D.trace ++ [c] }, 0) := by
  have hb : begunD D c = { D with clock := D.clock + 1, trace := D.trace ++ [c] } := by
    unfold begunD
    rw [h1]
    rfl
  have hf : fateD (begunD D c) = if at_ = (D.trace.length : Int) then ⟨at_, 3, keep, torn⟩ else fateZ := by
    rw [hb]
    unfold fateD fateOf
    show ((D.fates.find? _).getD fateZ) = _
    rw [h2, List.length_append, List.length_singleton, show ((D.trace.length + 1 : Nat) : Int) - 1 = (D.trace.length : Int) by omega]
    by_cases h : at_ = (D.trace.length : Int)
    · rw [if_pos h, List.find?_cons_of_pos (by simpa using h)]
      rfl
    · rw [if_neg h, List.find?_cons_of_neg (by simpa using h)]
      rfl
  unfold stepD
  rw [if_neg (by rw [h0]; simp), hf, hb]
  by_cases h : at_ = (D.trace.length : Int)
  · rw [if_pos h, if_pos h, if_pos rfl]
  · rw [if_neg h, if_neg h, if_neg (by decide), if_neg (by decide)]
/-- A step of a disk that is on, without edits and fates. -/
theorem step_calm (D : Dk) (c : Did) (h0 : D.off = false) (h1 : D.edits = []) (h2 : D.fates = []) : stepD D c = ({ D with clock := D.clock + 1, trace := D.trace ++ [c] }, 0) := by
  have hb : begunD D c = { D with clock := D.clock + 1, trace := D.trace ++ [c] } := by
    unfold begunD
    rw [h1]
    rfl
  have hf : fateD (begunD D c) = fateZ := by
    rw [hb]
    unfold fateD fateOf
    show ((D.fates.find? _).getD fateZ) = _
    rw [h2]
    rfl
  unfold stepD
  rw [if_neg (by rw [h0]; simp), hf, hb, if_neg (by decide), if_neg (by decide)]
section
variable (old dt : List UInt8) (at_ keep torn : Int)
def whF : List Fate := [⟨at_, 3, keep, torn⟩]
def wh1 : Dk := bootD (newD [⟨[102], 1, old, 0⟩]) (whF at_ keep torn) []
def whT1 : List Did := [⟨cWrite, [103], []⟩]
def whT2 : List Did := [⟨cWrite, [103], []⟩, ⟨cSync, [103], []⟩]
def whT3 : List Did := [⟨cWrite, [103], []⟩, ⟨cSync, [103], []⟩, ⟨cReplace, [103], [102]⟩]
def whT4 : List Did := [⟨cWrite, [103], []⟩, ⟨cSync, [103], []⟩, ⟨cReplace, [103], [102]⟩, ⟨cFlush, [], []⟩]
def whI (d : Bool) : List Ino := [⟨0, 1, 0, old, false⟩, ⟨1, 1, 0, dt, d⟩]
def wh1c : Dk := ⟨[en [102] 1], [en [102] 1], [], [⟨0, 1, 0, old, false⟩], false, 1, whT1, whF at_ keep torn, []⟩
def wh2 : Dk := ⟨[en [102] 1, en [103] 2], [en [102] 1], [[en [102] 1, en [103] 2]], whI old dt true, false, 1, whT1, whF at_ keep torn, []⟩
def wh2c : Dk := ⟨[en [102] 1, en [103] 2], [en [102] 1], [[en [102] 1, en [103] 2]], whI old dt true, false, 2, whT2, whF at_ keep torn, []⟩
def wh3 : Dk := ⟨[en [102] 1, en [103] 2], [en [102] 1], [[en [102] 1, en [103] 2]], whI old dt false, false, 2, whT2, whF at_ keep torn, []⟩
def wh3c : Dk := ⟨[en [102] 1, en [103] 2], [en [102] 1], [[en [102] 1, en [103] 2]], whI old dt false, false, 3, whT3, whF at_ keep torn, []⟩
def wh4 : Dk := ⟨[en [102] 2], [en [102] 1], [[en [102] 1, en [103] 2], [en [102] 2]], whI old dt false, false, 3, whT3, whF at_ keep torn, []⟩
def wh4c : Dk := ⟨[en [102] 2], [en [102] 1], [[en [102] 1, en [103] 2], [en [102] 2]], whI old dt false, false, 4, whT4, whF at_ keep torn, []⟩
def wh5 : Dk := ⟨[en [102] 2], [en [102] 2], [], whI old dt false, false, 4, whT4, whF at_ keep torn, []⟩
theorem wh_fate (h : at_ ≠ 0) : fateD (wh1c old at_ keep torn) = fateZ := by
  show ((whF at_ keep torn).find? fun f => decide (f.at_ = (0 : Int))).getD fateZ = fateZ
  unfold whF
  rw [List.find?_cons_of_neg (by simpa using h)]
  rfl
theorem wh_stand (hd : dt.length ≤ 65536) : standB ⟨[103], 1, dt, 0⟩ = true := by
  have h1 : rightB ⟨[], 1, dt, 0⟩ = true := by
    unfold rightB
    show (if (1 : Int) = 1 then _ else _) = true
    rw [if_pos rfl]
    show (decide (dt.length ≤ 65536) && decide ((0 : Int) ≤ 0) && decide ((0 : Int) ≤ 511)) = true
    rw [decide_eq_true hd]
    rfl
  unfold standB rightV
  simp only [h1]
  rfl
theorem wh_write (hd : dt.length ≤ 65536) : writeD (wh1 old at_ keep torn) [103] dt 0 = if at_ = 0 then (crashD (wh1c old at_ keep torn) keep torn, 75) else (wh2 old dt at_ keep torn, 0) := by
  have hst : stepD (wh1 old at_ keep torn) ⟨cWrite, [103], []⟩ = if at_ = 0 then (crashD (wh1c old at_ keep torn) keep torn, 75) else (wh1c old at_ keep torn, 0) := step_one _ _ at_ keep torn rfl rfl rfl
  unfold writeD
  rw [hst]
  by_cases h : at_ = 0
  · rw [if_pos h, if_pos h]
    rfl
  · rw [if_neg h, if_neg h, after_yes rfl]
    have he : writeE (wh1c old at_ keep torn) [103] dt 0 = 0 := by
      unfold writeE roomB
      rw [wh_stand dt hd, wh_fate old at_ keep torn h]
      rfl
    rw [he]
    rfl
theorem wh_sync : syncD (wh2 old dt at_ keep torn) [103] = if at_ = 1 then (crashD (wh2c old dt at_ keep torn) keep torn, 75) else (wh3 old dt at_ keep torn, 0) := by
  have hst : stepD (wh2 old dt at_ keep torn) ⟨cSync, [103], []⟩ = if at_ = 1 then (crashD (wh2c old dt at_ keep torn) keep torn, 75) else (wh2c old dt at_ keep torn, 0) := step_one _ _ at_ keep torn rfl rfl rfl
  unfold syncD
  rw [hst]
  by_cases h : at_ = 1
  · rw [if_pos h, if_pos h]
    rfl
  · rw [if_neg h, if_neg h, after_yes rfl]
    rfl
theorem wh_replace : replaceD (wh3 old dt at_ keep torn) [103] [102] = if at_ = 2 then (crashD (wh3c old dt at_ keep torn) keep torn, 75) else (wh4 old dt at_ keep torn, 0) := by
  have hst : stepD (wh3 old dt at_ keep torn) ⟨cReplace, [103], [102]⟩ = if at_ = 2 then (crashD (wh3c old dt at_ keep torn) keep torn, 75) else (wh3c old dt at_ keep torn, 0) := step_one _ _ at_ keep torn rfl rfl rfl
  unfold replaceD
  rw [hst]
  by_cases h : at_ = 2
  · rw [if_pos h, if_pos h]
    rfl
  · rw [if_neg h, if_neg h, after_yes rfl]
    rfl
theorem wh_flush : flushD (wh4 old dt at_ keep torn) = if at_ = 3 then (crashD (wh4c old dt at_ keep torn) keep torn, 75) else (wh5 old dt at_ keep torn, 0) := by
  have hst : stepD (wh4 old dt at_ keep torn) ⟨cFlush, [], []⟩ = if at_ = 3 then (crashD (wh4c old dt at_ keep torn) keep torn, 75) else (wh4c old dt at_ keep torn, 0) := step_one _ _ at_ keep torn rfl rfl rfl
  unfold flushD
  rw [hst]
  by_cases h : at_ = 3
  · rw [if_pos h, if_pos h]
    rfl
  · rw [if_neg h, if_neg h, after_yes rfl]
    rfl
/-- At f the old data stand, or the new ones. -/
def WhOk (D : Dk) : Prop := ∃ k : Int, findN D.names [102] = some (en [102] k) ∧ (inoOf D.inos k).kind = 1 ∧ ((inoOf D.inos k).data = old ∨ (inoOf D.inos k).data = dt)
theorem wh_get {D : Dk} (h : WhOk old dt D) : (getD (bootD D [] []) [102]).2.2.2 = 0 ∧ ((getD (bootD D [] []) [102]).2.1.data = old ∨ (getD (bootD D [] []) [102]).2.1.data = dt) := by
  obtain ⟨k, h1, h2, h3⟩ := h
  have hst := step_calm (bootD D [] []) ⟨cGet, [102], []⟩ rfl rfl rfl
  obtain ⟨E, hE⟩ : ∃ E, ({ bootD D [] [] with clock := (bootD D [] []).clock + 1, trace := (bootD D [] []).trace ++ [⟨cGet, [102], []⟩] } : Dk) = E := ⟨_, rfl⟩
  have e1 : E.names = D.names := by rw [← hE]; rfl
  have e2 : E.inos = D.inos := by rw [← hE]; rfl
  rw [hE] at hst
  have hk : kindD E [102] = 1 := by
    unfold kindD kindN
    rw [if_neg (by decide), e1, e2, h1]
    exact h2
  have hm : missE E [102] = 0 := by
    unfold missE
    rw [hk]
    decide +kernel
  have hg : gotN E [102] = ⟨[102], 1, (inoOf D.inos k).data, (inoOf D.inos k).mode⟩ := by
    unfold gotN
    rw [if_neg (by decide), e1, e2, h1]
    unfold nodeOf en
    simp only
    rw [h2]
  unfold getD
  rw [hst, after_yes rfl]
  unfold refuse
  rw [hm, if_pos rfl]
  show (if (0 : Int) = 0 then (E, (gotN E [102], gotS E [102], (0 : Int))) else _).2.2.2 = 0 ∧ _
  rw [if_pos rfl, hg]
  exact ⟨rfl, h3⟩
theorem wh_ok1 : WhOk old dt (crashD (wh1c old at_ keep torn) keep torn) := by
  have hk : keptD (wh1c old at_ keep torn) keep = [en [102] 1] := by
    unfold keptD keepN
    rw [show (wh1c old at_ keep torn).later.length = 0 from rfl, Nat.min_zero, if_pos rfl]
    rfl
  refine ⟨1, ?_, rfl, .inl rfl⟩
  show findN (keptD _ _) _ = _
  rw [hk]
  rfl
theorem wh_kept2 (D : Dk) (h : D.safe = [en [102] 1]) (hl : D.later = [[en [102] 1, en [103] 2]]) : findN (keptD D keep) [102] = some (en [102] 1) := by
  unfold keptD keepN
  rw [h, hl]
  by_cases hz : keep.toNat = 0
  · rw [hz, if_pos (by simp)]
    rfl
  · rw [show min keep.toNat ([[en [102] 1, en [103] 2]] : List (List Nd)).length = 1 by simp; omega, if_neg (by omega)]
    rfl
theorem wh_ok2 : WhOk old dt (crashD (wh2c old dt at_ keep torn) keep torn) := ⟨1, wh_kept2 keep _ rfl rfl, rfl, .inl rfl⟩
theorem wh_ok3 : WhOk old dt (crashD (wh3c old dt at_ keep torn) keep torn) := ⟨1, wh_kept2 keep _ rfl rfl, rfl, .inl rfl⟩
theorem wh_ok4 : WhOk old dt (crashD (wh4c old dt at_ keep torn) keep torn) := by
  have hk : findN (keptD (wh4c old dt at_ keep torn) keep) [102] = some (en [102] 1) ∨ findN (keptD (wh4c old dt at_ keep torn) keep) [102] = some (en [102] 2) := by
    unfold keptD keepN
    rw [show (wh4c old dt at_ keep torn).later = [[en [102] 1, en [103] 2], [en [102] 2]] from rfl, show (wh4c old dt at_ keep torn).safe = [en [102] 1] from rfl, show ([[en [102] 1, en [103] 2], [en [102] 2]] : List (List Nd)).length = 2 from rfl]
    rcases (by omega : min keep.toNat 2 = 0 ∨ min keep.toNat 2 = 1 ∨ min keep.toNat 2 = 2) with h | h | h
    · rw [h]; exact .inl rfl
    · rw [h]; exact .inl rfl
    · rw [h]; exact .inr rfl
  rcases hk with hk | hk
  · exact ⟨1, hk, rfl, .inl rfl⟩
  · exact ⟨2, hk, rfl, .inr rfl⟩
theorem wh_ok5 : WhOk old dt (wh5 old dt at_ keep torn) := ⟨2, rfl, rfl, .inr rfl⟩
/-- What each of the ways leaves. -/
theorem wh_all (hd : dt.length ≤ 65536) :
    ((writeD (wh1 old at_ keep torn) [103] dt 0).2 ≠ 0 → WhOk old dt (writeD (wh1 old at_ keep torn) [103] dt 0).1) ∧
    ((writeD (wh1 old at_ keep torn) [103] dt 0).2 = 0 → (syncD (writeD (wh1 old at_ keep torn) [103] dt 0).1 [103]).2 ≠ 0 → WhOk old dt (syncD (writeD (wh1 old at_ keep torn) [103] dt 0).1 [103]).1) ∧
    ((writeD (wh1 old at_ keep torn) [103] dt 0).2 = 0 → (syncD (writeD (wh1 old at_ keep torn) [103] dt 0).1 [103]).2 = 0 → (replaceD (syncD (writeD (wh1 old at_ keep torn) [103] dt 0).1 [103]).1 [103] [102]).2 ≠ 0 → WhOk old dt (replaceD (syncD (writeD (wh1 old at_ keep torn) [103] dt 0).1 [103]).1 [103] [102]).1) ∧
    ((writeD (wh1 old at_ keep torn) [103] dt 0).2 = 0 → (syncD (writeD (wh1 old at_ keep torn) [103] dt 0).1 [103]).2 = 0 → (replaceD (syncD (writeD (wh1 old at_ keep torn) [103] dt 0).1 [103]).1 [103] [102]).2 = 0 → WhOk old dt (flushD (replaceD (syncD (writeD (wh1 old at_ keep torn) [103] dt 0).1 [103]).1 [103] [102]).1).1) := by
  rw [wh_write old dt at_ keep torn hd]
  by_cases h0 : at_ = 0
  · rw [if_pos h0]
    exact ⟨fun _ => wh_ok1 .., (fun h => absurd h (by show ¬ (75 : Int) = 0; decide)), (fun h => absurd h (by show ¬ (75 : Int) = 0; decide)), (fun h => absurd h (by show ¬ (75 : Int) = 0; decide))⟩
  · rw [if_neg h0]
    simp only [wh_sync]
    by_cases h1 : at_ = 1
    · rw [if_pos h1]
      exact ⟨(fun h => absurd rfl h), fun _ _ => wh_ok2 .., (fun _ h => absurd h (by show ¬ (75 : Int) = 0; decide)), (fun _ h => absurd h (by show ¬ (75 : Int) = 0; decide))⟩
    · rw [if_neg h1]
      simp only [wh_replace]
      by_cases h2 : at_ = 2
      · rw [if_pos h2]
        exact ⟨(fun h => absurd rfl h), (fun _ h => absurd rfl h), fun _ _ _ => wh_ok3 .., (fun _ _ h => absurd h (by show ¬ (75 : Int) = 0; decide))⟩
      · rw [if_neg h2]
        simp only [wh_flush]
        refine ⟨(fun h => absurd rfl h), (fun _ h => absurd rfl h), (fun _ _ h => absurd rfl h), fun _ _ _ => ?_⟩
        by_cases h3 : at_ = 3
        · rw [if_pos h3]
          exact wh_ok4 ..
        · rw [if_neg h3]
          exact wh_ok5 ..
end
end DG
end Go.Proofs.YtjkikkpbeceeeaaGreatDoor
end

section
/- Layer 7 over lists: a disk that is off. -/
namespace Go.Proofs.YtjkikkpbeceeeaaGreatDoor
open Go.RowKit Go.Lib Go.BigFrame
namespace DG
open OM TP TM DP DM TG TR FP

theorem step_off {D : Dk} (h : D.off = true) (c : Did) : stepD D c = (D, 75) := by
  unfold stepD
  rw [if_pos h]
theorem after_off {D : Dk} (h : D.off = true) (c : Did) (f : Dk → Dk × Int) : after (stepD D c) f = (D, 75) := by
  rw [step_off h, after_no (by show ¬ (75 : Int) = 0; decide)]
theorem ask_off {D : Dk} (h : D.off = true) (c : Cal) (hw : c.what ≠ 10) : askD D c = (D, if 0 ≤ c.what ∧ c.what ≤ 9 then errA 75 else errA 0) := by
  unfold askD
  by_cases h0 : c.what = 0
  · rw [if_pos h0, if_pos (by omega)]; unfold writeD; rw [after_off h]
  rw [if_neg h0]
  by_cases h1 : c.what = 1
  · rw [if_pos h1, if_pos (by omega)]; unfold mkdirD; rw [after_off h]
  rw [if_neg h1]
  by_cases h2 : c.what = 2
  · rw [if_pos h2, if_pos (by omega)]; unfold linkD; rw [after_off h]
  rw [if_neg h2]
  by_cases h3 : c.what = 3
  · rw [if_pos h3, if_pos (by omega)]; unfold removeD; rw [after_off h]
  rw [if_neg h3]
  by_cases h4 : c.what = 4
  · rw [if_pos h4, if_pos (by omega)]; unfold moveD; rw [after_off h]
  rw [if_neg h4]
  by_cases h5 : c.what = 5
  · rw [if_pos h5, if_pos (by omega)]; unfold replaceD; rw [after_off h]
  rw [if_neg h5]
  by_cases h6 : c.what = 6
  · rw [if_pos h6, if_pos (by omega)]; unfold syncD; rw [after_off h]
  rw [if_neg h6]
  by_cases h7 : c.what = 7
  · rw [if_pos h7, if_pos (by omega)]; unfold flushD; rw [after_off h]
  rw [if_neg h7]
  by_cases h8 : c.what = 8
  · have hg : DP.getD D c.path = (D, (nodeZ, stampZ, 75)) := by
      unfold DP.getD
      rw [after_off h]
      rfl
    rw [if_pos h8, if_pos (by omega), hg]
    rfl
  rw [if_neg h8]
  by_cases h9 : c.what = 9
  · have hn : namesR D c.path = (D, 75) := by unfold namesR; exact after_off h _ _
    rw [if_pos h9, if_pos (by omega), hn]
    rfl
  rw [if_neg h9, if_neg hw, if_neg (by omega)]
/-- The disk that was crashed at once. -/
def offD (t : List Nd) (keep torn : Int) : Dk := (flushD (bootD (newD t) [⟨0, 3, keep, torn⟩] [])).1
def offC (t : List Nd) (keep torn : Int) : Dk := { bootD (newD t) [⟨0, 3, keep, torn⟩] [] with clock := 1, trace := [⟨cFlush, [], []⟩] }
theorem off_flush (t : List Nd) (keep torn : Int) : flushD (bootD (newD t) [⟨0, 3, keep, torn⟩] []) = (crashD (offC t keep torn) keep torn, 75) := by
  unfold flushD
  have hst : stepD (bootD (newD t) [⟨0, 3, keep, torn⟩] []) ⟨cFlush, [], []⟩ = (crashD (offC t keep torn) keep torn, 75) := by
    rw [step_one _ _ 0 keep torn rfl rfl rfl]
    exact if_pos rfl
  rw [hst, after_no (by show ¬ (75 : Int) = 0; decide)]
theorem off_is (t : List Nd) (keep torn : Int) : offD t keep torn = crashD (offC t keep torn) keep torn := by unfold offD; rw [off_flush]
theorem off_off (t : List Nd) (keep torn : Int) : (offD t keep torn).off = true := by rw [off_is]; rfl
theorem off_trace (t : List Nd) (keep torn : Int) : (offD t keep torn).trace.length = 1 := by rw [off_is]; rfl
theorem off_tree (t : List Nd) (keep torn : Int) : treeD (bootD (offD t keep torn) [] []) = t := by
  show treeD (offD t keep torn) = t
  rw [off_is]
  have h1 := crash_safe (D := offC t keep torn) rfl rfl (new_clean t) keep torn
  rw [h1]
  exact tree_new t
theorem off_last (t : List Nd) (keep torn : Int) : (flushD (bootD (offD t keep torn) [] [])).2 = 0 := by
  unfold flushD
  rw [step_calm _ _ rfl rfl rfl, after_yes rfl]
end DG
end Go.Proofs.YtjkikkpbeceeeaaGreatDoor
end

section
/- Layer 7 over lists: a disk that nothing befalls; what is synced and flushed survives a crash. -/
namespace Go.Proofs.YtjkikkpbeceeeaaGreatDoor
open Go.RowKit Go.Lib Go.BigFrame
namespace DG
open OM TP TM DP DM TG TR FP

/-- A disk that nothing befalls, whose inodes are of a kind. -/
structure Calm (D : Dk) : Prop where
  off : D.off = false
  edits : D.edits = []
  fates : D.fates = []
  kinds : ∀ i ∈ D.inos, i.kind ≠ 0
def tick (D : Dk) (c : Did) : Dk := { D with clock := D.clock + 1, trace := D.trace ++ [c] }
theorem Calm.step {D : Dk} (h : Calm D) (c : Did) : stepD D c = (tick D c, 0) := step_calm D c h.off h.edits h.fates
theorem Calm.after {D : Dk} (h : Calm D) (c : Did) (f : Dk → Dk × Int) : after (stepD D c) f = f (tick D c) := by rw [h.step c, after_yes rfl]
theorem Calm.tick {D : Dk} (h : Calm D) (c : Did) : Calm (tick D c) := ⟨h.off, h.edits, h.fates, h.kinds⟩
theorem Calm.change {D : Dk} (h : Calm D) (c : List Nd) : Calm (changeD D c) := ⟨h.off, h.edits, h.fates, h.kinds⟩
theorem Calm.fresh {D : Dk} (h : Calm D) (n : Nd) (hn : n.kind ≠ 0) : Calm (freshD D n) := ⟨h.off, h.edits, h.fates, fun i hi => by
  rcases List.mem_append.1 (show i ∈ D.inos ++ [freshI D n] from hi) with hi | hi
  · exact h.kinds i hi
  · rw [List.mem_singleton.1 hi]; exact hn⟩
theorem Calm.settle {D : Dk} (h : Calm D) : Calm (settleD D) := ⟨h.off, h.edits, h.fates, h.kinds⟩
theorem Calm.boot {D : Dk} (h : ∀ i ∈ D.inos, i.kind ≠ 0) : Calm (bootD D [] []) := ⟨rfl, rfl, rfl, h⟩
theorem Calm.refuse {E E' : Dk} {e : Int} (h : Calm E) (h' : Calm E') : Calm (refuse e E E').1 := by
  unfold DP.refuse
  split
  · exact h'
  · exact h
/-- An entry's inode is among the disk's. -/
theorem ino_in {I : List Ino} {k : Int} (h1 : 1 ≤ k) (h2 : k ≤ I.length) : inoOf I k ∈ I := by
  unfold inoOf
  rw [List.getD_eq_getElem?_getD, List.getElem?_eq_getElem (by omega)]
  exact List.getElem_mem _
theorem Calm.setI {D : Dk} (h : Calm D) (hf : ∀ e ∈ D.names, 1 ≤ e.kind ∧ e.kind ≤ D.inos.length) (p : List UInt8) (f : Ino → Ino) (hk : ∀ i, (f i).kind = i.kind) : Calm (DP.setI D p f) := by
  unfold DP.setI
  split
  · rename_i e he
    refine ⟨h.off, h.edits, h.fates, fun i hi => ?_⟩
    rcases List.mem_or_eq_of_mem_set hi with hi | hi
    · exact h.kinds i hi
    · rw [hi, hk]
      obtain ⟨h1, h2⟩ := hf e (find_mem he).1
      exact h.kinds _ (ino_in h1 h2)
  · exact h
theorem fit_tick {D : Dk} (h : Fit D) (c : Did) : Fit (tick D c) := ⟨h.names, h.safe, h.later, h.data⟩
theorem fit_kind {D : Dk} (h : Fit D) : ∀ e ∈ D.names, 1 ≤ e.kind ∧ e.kind ≤ D.inos.length := fun e he => row_kind h.names he
theorem laid_kind {D : Dk} (h : Fit D) (n : Nd) : ∀ e ∈ (changeD (freshD D n) [freshE D n]).names, 1 ≤ e.kind ∧ e.kind ≤ (changeD (freshD D n) [freshE D n]).inos.length := fun e he => by
  have hl : (changeD (freshD D n) [freshE D n]).inos.length = D.inos.length + 1 := by show (D.inos ++ [_]).length = _; simp
  rw [hl]
  rcases mem_with (show e ∈ withE D.names [freshE D n] from he) with he | ⟨he, _⟩
  · have := fit_kind h e he
    omega
  · rw [List.mem_singleton.1 he]
    show (1 : Int) ≤ ((D.inos.length + 1 : Nat) : Int) ∧ _
    constructor
    · omega
    · show ((D.inos.length + 1 : Nat) : Int) ≤ _
      omega
theorem Calm.ask {D : Dk} (h : Calm D) (hf : Fit D) (c : Cal) : Calm (askD D c).1 := by
  unfold askD
  split
  · unfold writeD
    rw [h.after]
    refine Calm.refuse (h.tick _) ?_
    unfold wroteD
    simp only
    split
    · exact Calm.setI (((h.tick _).fresh _ (by show (1 : Int) ≠ 0; decide)).change _) (laid_kind (fit_tick hf _) _) _ _ (fun _ => rfl)
    · exact (h.tick _).setI (fit_kind (fit_tick hf _)) _ _ (fun _ => rfl)
  split
  · unfold mkdirD
    rw [h.after]
    exact Calm.refuse (h.tick _) (((h.tick _).fresh _ (by show (2 : Int) ≠ 0; decide)).change _)
  split
  · unfold linkD
    rw [h.after]
    exact Calm.refuse (h.tick _) (((h.tick _).fresh _ (by show (3 : Int) ≠ 0; decide)).change _)
  split
  · unfold removeD
    rw [h.after]
    exact Calm.refuse (h.tick _) ((h.tick _).change _)
  split
  · unfold moveD
    rw [h.after]
    split
    · split
      · exact h.tick _
      · exact (h.tick _).change _
    · exact h.tick _
  split
  · unfold replaceD
    rw [h.after]
    exact Calm.refuse (h.tick _) ((h.tick _).change _)
  split
  · unfold syncD
    rw [h.after]
    exact Calm.refuse (h.tick _) ((h.tick _).setI (fit_kind (fit_tick hf _)) _ _ (fun _ => rfl))
  split
  · unfold flushD
    rw [h.after]
    exact (h.tick _).settle
  split
  · have hg : (DP.getD D c.path).1 = (DP.after (stepD D ⟨cGet, c.path, []⟩) fun E => DP.refuse (missE E c.path) E E).1 := by
      unfold DP.getD
      simp only
      split <;> rfl
    show Calm (DP.getD D c.path).1
    rw [hg, h.after]
    exact Calm.refuse (h.tick _) (h.tick _)
  split
  · show Calm (namesR D c.path).1
    unfold namesR
    rw [h.after]
    exact Calm.refuse (h.tick _) (h.tick _)
  split
  · exact Calm.boot h.kinds
  · exact h
theorem calm_new {t : List Nd} (ht : Tree t) : Calm (newD t) := ⟨rfl, rfl, rfl, fun i hi => by
  obtain ⟨n, hn, rfl⟩ := List.mem_map.1 (show i ∈ t.map (freshI emptyD) from hi)
  show n.kind ≠ 0
  have := ht.right n hn
  intro e
  unfold rightB at this
  rw [if_neg (by rw [e]; decide), if_neg (by rw [e]; decide), if_neg (by rw [e]; decide)] at this
  cases this⟩
/- syncing file by file -/
theorem ino_set {I : List Ino} {j k : Int} {i : Ino} (h1 : 1 ≤ j) (h2 : j ≤ I.length) (h3 : 1 ≤ k) : inoOf (I.set (j.toNat - 1) i) k = if k = j then i else inoOf I k := by
  unfold inoOf
  rw [List.getD_eq_getElem?_getD, List.getD_eq_getElem?_getD, List.getElem?_set]
  by_cases h : k = j
  · subst h
    rw [if_pos rfl, if_pos rfl, if_pos (by omega)]
    rfl
  · rw [if_neg h, if_neg (by omega)]
/-- What a Sync of an entry's path leaves. -/
theorem sync_at {D : Dk} (h : Calm D) (hf : Fit D) {e : Nd} (he : e ∈ D.names) : syncD D e.path = ({ tick D ⟨cSync, e.path, []⟩ with inos := D.inos.set (e.kind.toNat - 1) (syncI (inoOf D.inos e.kind)) }, 0) := by
  have hfi := find_of hf.names.sorted he
  have hp := hf.names.path e he
  obtain ⟨h1, h2⟩ := fit_kind hf e he
  have hk : kindD (tick D ⟨cSync, e.path, []⟩) e.path ≠ 0 := by
    unfold kindD kindN
    rw [if_neg (TP.path_ne hp)]
    show (match findN D.names e.path with | some e => (inoOf D.inos e.kind).kind | none => 0) ≠ 0
    rw [hfi]
    exact h.kinds _ (ino_in h1 h2)
  unfold syncD
  rw [h.after]
  have hs : syncE (tick D ⟨cSync, e.path, []⟩) e.path = 0 := by
    unfold syncE
    rw [hp, decide_eq_false hk]
    rfl
  unfold DP.refuse
  rw [hs, if_pos rfl]
  unfold DP.setI
  show (match findN D.names e.path with | some e => _ | none => _, (0 : Int)) = _
  rw [hfi]
  rfl
structure Synced (D0 D : Dk) (k : Nat) : Prop where
  calm : Calm D
  names : D.names = D0.names
  tree : treeD D = treeD D0
  clean : ∀ e ∈ D0.names.take k, (inoOf D.inos e.kind).dirty = false
theorem Synced.zero {D : Dk} (h : Calm D) : Synced D D 0 := ⟨h, rfl, rfl, by simp⟩
theorem Synced.next {D0 D : Dk} {k : Nat} (h : Synced D0 D k) (hf : Fit D) {e : Nd} (he : D0.names[k]? = some e) : (syncD D e.path).2 = 0 ∧ Synced D0 (syncD D e.path).1 (k + 1) := by
  have hm : e ∈ D.names := by rw [h.names]; exact List.mem_of_getElem? he
  obtain ⟨h1, h2⟩ := fit_kind hf e hm
  rw [sync_at h.calm hf hm]
  have hi : ∀ f : Nd, 1 ≤ f.kind → inoOf (D.inos.set (e.kind.toNat - 1) (syncI (inoOf D.inos e.kind))) f.kind = if f.kind = e.kind then syncI (inoOf D.inos e.kind) else inoOf D.inos f.kind := fun f h3 => ino_set h1 h2 h3
  refine ⟨rfl, ⟨h.calm.off, h.calm.edits, h.calm.fates, fun i hi => ?_⟩, h.names, ?_, fun f hf2 => ?_⟩
  · rcases List.mem_or_eq_of_mem_set hi with hi | hi
    · exact h.calm.kinds i hi
    · rw [hi]
      show (inoOf D.inos e.kind).kind ≠ 0
      exact h.calm.kinds _ (ino_in h1 h2)
  · rw [← h.tree]
    show D.names.map (nodeOf _) = D.names.map (nodeOf _)
    refine List.map_congr_left fun f hf2 => ?_
    have h3 := (fit_kind hf f hf2).1
    unfold nodeOf
    rw [hi f h3]
    split
    · rename_i heq
      rw [heq]
      rfl
    · rfl
  · show (inoOf (D.inos.set _ _) f.kind).dirty = false
    have hfm : f ∈ D.names := by rw [h.names]; exact List.mem_of_mem_take hf2
    rw [hi f (fit_kind hf f hfm).1]
    split
    · rfl
    · rename_i hne
      rw [List.take_add_one, he, Option.toList_some] at hf2
      rcases List.mem_append.1 hf2 with h4 | h4
      · exact h.clean f h4
      · rw [List.mem_singleton.1 h4] at hne
        exact absurd rfl hne
theorem ino_mapd {I : List Ino} (f : Ino → Ino) {k : Int} (h1 : 1 ≤ k) (h2 : k ≤ I.length) : inoOf (I.map f) k = f (inoOf I k) := by
  unfold inoOf
  rw [List.getD_eq_getElem?_getD, List.getD_eq_getElem?_getD, List.getElem?_map, List.getElem?_eq_getElem (by omega)]
  rfl
/-- The rest of the statement over lists: flushed, booted with a crash at the second step, asked, crashed, booted. -/
theorem safe_end {D0 D : Dk} (h : Synced D0 D D0.names.length) (hf : Fit D) (keep torn : Int) (p : List UInt8) :
    (flushD D).2 = 0 ∧ (flushD (DP.getD (bootD (flushD D).1 [⟨1, 3, keep, torn⟩] []) p).1).2 = 75 ∧ treeD (bootD (flushD (DP.getD (bootD (flushD D).1 [⟨1, 3, keep, torn⟩] []) p).1).1 [] []) = treeD D0 := by
  have hfl : flushD D = (settleD (tick D ⟨cFlush, [], []⟩), 0) := by
    unfold flushD
    rw [h.calm.after]
  obtain ⟨F, hF⟩ : ∃ F, settleD (tick D ⟨cFlush, [], []⟩) = F := ⟨_, rfl⟩
  have f1 : F.names = D.names := by rw [← hF]; rfl
  have f2 : F.safe = D.names := by rw [← hF]; rfl
  have f3 : F.later = [] := by rw [← hF]; rfl
  have f4 : F.inos = D.inos := by rw [← hF]; rfl
  rw [hfl, hF]
  simp only
  have hg : (DP.getD (bootD F [⟨1, 3, keep, torn⟩] []) p).1 = tick (bootD F [⟨1, 3, keep, torn⟩] []) ⟨cGet, p, []⟩ := by
    have hst : stepD (bootD F [⟨1, 3, keep, torn⟩] []) ⟨cGet, p, []⟩ = (tick (bootD F [⟨1, 3, keep, torn⟩] []) ⟨cGet, p, []⟩, 0) := by
      rw [step_one _ _ 1 keep torn rfl rfl rfl, if_neg (by show ¬ (1 : Int) = ((0 : Nat) : Int); decide)]
      rfl
    unfold DP.getD
    rw [hst, after_yes rfl]
    unfold DP.refuse
    split <;> simp only <;> split <;> rfl
  rw [hg]
  have hst : flushD (tick (bootD F [⟨1, 3, keep, torn⟩] []) ⟨cGet, p, []⟩) = (crashD (tick (tick (bootD F [⟨1, 3, keep, torn⟩] []) ⟨cGet, p, []⟩) ⟨cFlush, [], []⟩) keep torn, 75) := by
    unfold flushD
    rw [step_one _ _ 1 keep torn rfl rfl rfl, if_pos (by show (1 : Int) = ((1 : Nat) : Int); rfl), after_no (by show ¬ (75 : Int) = 0; decide)]
    rfl
  rw [hst]
  refine ⟨by trivial, by trivial, ?_⟩
  show (keptD (tick (tick (bootD F [⟨1, 3, keep, torn⟩] []) ⟨cGet, p, []⟩) ⟨cFlush, [], []⟩) keep).map (nodeOf (F.inos.map (clean torn))) = treeD D0
  have hk : keptD (tick (tick (bootD F [⟨1, 3, keep, torn⟩] []) ⟨cGet, p, []⟩) ⟨cFlush, [], []⟩) keep = D.names := by
    unfold keptD keepN
    show (if min keep.toNat F.later.length = 0 then F.safe else _) = _
    rw [f3, f2]
    simp
  rw [hk, f4, ← h.tree]
  refine List.map_congr_left fun e he => ?_
  obtain ⟨h1, h2⟩ := fit_kind hf e he
  have hc := h.clean e (by rw [List.take_length, ← h.names]; exact he)
  unfold nodeOf
  rw [ino_mapd (clean torn) h1 h2]
  unfold clean
  rw [if_neg (by rw [hc]; simp)]
end DG
end Go.Proofs.YtjkikkpbeceeeaaGreatDoor
end

section
/- Layer 7: the contract of the statements' ask. -/
namespace Go.Proofs.YtjkikkpbeceeeaaGreatDoor
open Go.RowKit Go.Lib Go.BigFrame
namespace DG
open OM TP TM DP DM TG TR FP

set_option maxRecDepth 100000 in
set_option maxHeartbeats 6400000 in
theorem ask_write {w W : World} {S : Nat → Prop} {P m : Nat} {D : Dk} (h : DS w W S P m D) (he : NF.Env w) (hm : m ≤ 100000) (c : Cal) (hk : c.what = 0) (hp : c.path.length ≤ maxLen) (hq : c.dest.length ≤ maxLen) :
    Calls Tryz.prog 19 #[.pointer (some ⟨P, 0, none⟩), calV c] W (AskPost w W S P (m + 1) (askD D c)) := by
  obtain ⟨wh, p, q, dt, md⟩ := c
  simp only at hk hp hq
  subst hk
  obtain ⟨X, hX, hXd⟩ := txt_of p
  obtain ⟨Y, hY, hYd⟩ := txt_of q
  obtain ⟨V, hV, hVd⟩ := txt_of dt
  have HA : Hid (askD D ⟨0, p, q, dt, md⟩ = ((writeD D p dt md).1, errA (writeD D p dt md).2)) := Lib.hid (by unfold askD; rw [if_pos rfl])
  have HI5 := Lib.hid (ask5_is W 0 md X Y V)
  have CX : Hid (∀ W5, Ask5 W W5 0 md X Y V → Calls Tryz.prog 12 #[.pointer (some ⟨P, 0, none⟩), .string X, .string V, .int .i64 md] W5 fun r W6 => r = .returned (.int .i64 (writeD D p dt md).2) ∧ Aft w W5 S P (m + 1) (writeD D p dt md).1 W6) := Lib.hid (fun W5 h5 => by
    have h' := h.below h5.bel
    have := h'.write he hm p dt md (by exact hp)
    rw [hX, hV] at this
    exact this)
  have HD := Lib.hid h
  unfold calV
  simp only
  rw [HA.out, hX, hY, hV]
  obtain ⟨W5, hW5⟩ : ∃ z, ask5 W 0 md X Y V = z := ⟨_, rfl⟩
  rw [hW5] at HI5
  unfold ask5 at hW5
  obtain ⟨d0, d1, d2, d3, d4, d5⟩ := row5c HI5.out.r0
  obtain ⟨-, -, -, -, tf⟩ := row4 HI5.out.r3
  have CY := Lib.hid (CX.out W5 HI5.out)
  clear h he hm hp hq hX hY hV hXd hYd hVd
  go_enter Tryz.func19, Tryz.ntmps19
  repeat (first | (go_at_call 12; fail) | go_skip | go_guarded | go_step | go_upon)
  try rw [hW5]
  refine CY.out.mono ?_
  rintro r W6 ⟨rfl, S6, h6, hs6, ho6⟩
  simp only []
  obtain ⟨r1, r2, r3, r4⟩ := HI5.out.keep HD.out ho6
  obtain ⟨t0, t1, t2, t3, tf⟩ := row4 r1
  obtain ⟨s0, s1, s2, sf⟩ := row3 r2
  obtain ⟨y0, y1, y2, y3, yf⟩ := row4 r3
  obtain ⟨x0, x1, x2, xf⟩ := row3 r4
  have H6 := Lib.hid h6
  have HS6 := Lib.hid hs6
  have HO6 := Lib.hid ho6
  clear h6 hs6 ho6 r1 r2 r3 r4 d0 d1 d2 d3 d4 d5
  repeat (first | go_skip | go_guarded | go_step | go_upon)
  go_region
  repeat (first | go_skip | go_guarded | go_step | go_upon)
  refine bodyPost_ret (v := .tuple #[.int .i64 (writeD D p dt md).2, .agg #[.string ⟨#[]⟩, .int .i64 0, .string ⟨#[]⟩, .int .i64 0], .agg #[.int .i64 0, .int .i64 0, .int .i64 0], .slice none 0 0]) ?_ rfl ⟨.slice none 0 0, rfl, World.ownsRow_nil _ _ _ _, ask_done HD.out HI5.out.bel HI5.out.size H6.out HS6.out HO6.out ?_ (fun g hg => by cases hg)⟩
  · rw [results_ask rfl]
    go_simp
  · exact out_ask7 _ _ _ _ _ _ _ _ _
set_option maxRecDepth 100000 in
set_option maxHeartbeats 6400000 in
theorem ask_mkdir {w W : World} {S : Nat → Prop} {P m : Nat} {D : Dk} (h : DS w W S P m D) (he : NF.Env w) (hm : m ≤ 100000) (c : Cal) (hk : c.what = 1) (hp : c.path.length ≤ maxLen) (hq : c.dest.length ≤ maxLen) :
    Calls Tryz.prog 19 #[.pointer (some ⟨P, 0, none⟩), calV c] W (AskPost w W S P (m + 1) (askD D c)) := by
  obtain ⟨wh, p, q, dt, md⟩ := c
  simp only at hk hp hq
  subst hk
  obtain ⟨X, hX, hXd⟩ := txt_of p
  obtain ⟨Y, hY, hYd⟩ := txt_of q
  obtain ⟨V, hV, hVd⟩ := txt_of dt
  have HA : Hid (askD D ⟨1, p, q, dt, md⟩ = ((mkdirD D p).1, errA (mkdirD D p).2)) := Lib.hid (by unfold askD; rw [if_neg (show ¬ ((1 : Int) = 0) by decide)]; rw [if_pos rfl])
  have HI5 := Lib.hid (ask5_is W 1 md X Y V)
  have CX : Hid (∀ W5, Ask5 W W5 1 md X Y V → Calls Tryz.prog 50 #[.pointer (some ⟨P, 0, none⟩), .string X] W5 fun r W6 => r = .returned (.int .i64 (mkdirD D p).2) ∧ Aft w W5 S P (m + 1) (mkdirD D p).1 W6) := Lib.hid (fun W5 h5 => by
    have h' := h.below h5.bel
    have := h'.mkdir he hm p hp
    rw [hX] at this
    exact this)
  have HD := Lib.hid h
  unfold calV
  simp only
  rw [HA.out, hX, hY, hV]
  obtain ⟨W5, hW5⟩ : ∃ z, ask5 W 1 md X Y V = z := ⟨_, rfl⟩
  rw [hW5] at HI5
  unfold ask5 at hW5
  obtain ⟨d0, d1, d2, d3, d4, d5⟩ := row5c HI5.out.r0
  obtain ⟨-, -, -, -, tf⟩ := row4 HI5.out.r3
  have CY := Lib.hid (CX.out W5 HI5.out)
  clear h he hm hp hq hX hY hV hXd hYd hVd
  go_enter Tryz.func19, Tryz.ntmps19
  repeat (first | (go_at_call 50; fail) | go_skip | go_guarded | go_step | go_upon)
  try rw [hW5]
  refine CY.out.mono ?_
  rintro r W6 ⟨rfl, S6, h6, hs6, ho6⟩
  simp only []
  obtain ⟨r1, r2, r3, r4⟩ := HI5.out.keep HD.out ho6
  obtain ⟨t0, t1, t2, t3, tf⟩ := row4 r1
  obtain ⟨s0, s1, s2, sf⟩ := row3 r2
  obtain ⟨y0, y1, y2, y3, yf⟩ := row4 r3
  obtain ⟨x0, x1, x2, xf⟩ := row3 r4
  have H6 := Lib.hid h6
  have HS6 := Lib.hid hs6
  have HO6 := Lib.hid ho6
  clear h6 hs6 ho6 r1 r2 r3 r4 d0 d1 d2 d3 d4 d5
  repeat (first | go_skip | go_guarded | go_step | go_upon)
  go_region
  repeat (first | go_skip | go_guarded | go_step | go_upon)
  refine bodyPost_ret (v := .tuple #[.int .i64 (mkdirD D p).2, .agg #[.string ⟨#[]⟩, .int .i64 0, .string ⟨#[]⟩, .int .i64 0], .agg #[.int .i64 0, .int .i64 0, .int .i64 0], .slice none 0 0]) ?_ rfl ⟨.slice none 0 0, rfl, World.ownsRow_nil _ _ _ _, ask_done HD.out HI5.out.bel HI5.out.size H6.out HS6.out HO6.out ?_ (fun g hg => by cases hg)⟩
  · rw [results_ask rfl]
    go_simp
  · exact out_ask7 _ _ _ _ _ _ _ _ _
set_option maxRecDepth 100000 in
set_option maxHeartbeats 6400000 in
theorem ask_link {w W : World} {S : Nat → Prop} {P m : Nat} {D : Dk} (h : DS w W S P m D) (he : NF.Env w) (hm : m ≤ 100000) (c : Cal) (hk : c.what = 2) (hp : c.path.length ≤ maxLen) (hq : c.dest.length ≤ maxLen) :
    Calls Tryz.prog 19 #[.pointer (some ⟨P, 0, none⟩), calV c] W (AskPost w W S P (m + 1) (askD D c)) := by
  obtain ⟨wh, p, q, dt, md⟩ := c
  simp only at hk hp hq
  subst hk
  obtain ⟨X, hX, hXd⟩ := txt_of p
  obtain ⟨Y, hY, hYd⟩ := txt_of q
  obtain ⟨V, hV, hVd⟩ := txt_of dt
  have HA : Hid (askD D ⟨2, p, q, dt, md⟩ = ((linkD D p q).1, errA (linkD D p q).2)) := Lib.hid (by unfold askD; rw [if_neg (show ¬ ((2 : Int) = 0) by decide)]; rw [if_neg (show ¬ ((2 : Int) = 1) by decide)]; rw [if_pos rfl])
  have HI5 := Lib.hid (ask5_is W 2 md X Y V)
  have CX : Hid (∀ W5, Ask5 W W5 2 md X Y V → Calls Tryz.prog 51 #[.pointer (some ⟨P, 0, none⟩), .string X, .string Y] W5 fun r W6 => r = .returned (.int .i64 (linkD D p q).2) ∧ Aft w W5 S P (m + 1) (linkD D p q).1 W6) := Lib.hid (fun W5 h5 => by
    have h' := h.below h5.bel
    have := h'.link he hm p q hp hq
    rw [hX, hY] at this
    exact this)
  have HD := Lib.hid h
  unfold calV
  simp only
  rw [HA.out, hX, hY, hV]
  obtain ⟨W5, hW5⟩ : ∃ z, ask5 W 2 md X Y V = z := ⟨_, rfl⟩
  rw [hW5] at HI5
  unfold ask5 at hW5
  obtain ⟨d0, d1, d2, d3, d4, d5⟩ := row5c HI5.out.r0
  obtain ⟨-, -, -, -, tf⟩ := row4 HI5.out.r3
  have CY := Lib.hid (CX.out W5 HI5.out)
  clear h he hm hp hq hX hY hV hXd hYd hVd
  go_enter Tryz.func19, Tryz.ntmps19
  repeat (first | (go_at_call 51; fail) | go_skip | go_guarded | go_step | go_upon)
  try rw [hW5]
  refine CY.out.mono ?_
  rintro r W6 ⟨rfl, S6, h6, hs6, ho6⟩
  simp only []
  obtain ⟨r1, r2, r3, r4⟩ := HI5.out.keep HD.out ho6
  obtain ⟨t0, t1, t2, t3, tf⟩ := row4 r1
  obtain ⟨s0, s1, s2, sf⟩ := row3 r2
  obtain ⟨y0, y1, y2, y3, yf⟩ := row4 r3
  obtain ⟨x0, x1, x2, xf⟩ := row3 r4
  have H6 := Lib.hid h6
  have HS6 := Lib.hid hs6
  have HO6 := Lib.hid ho6
  clear h6 hs6 ho6 r1 r2 r3 r4 d0 d1 d2 d3 d4 d5
  repeat (first | go_skip | go_guarded | go_step | go_upon)
  go_region
  repeat (first | go_skip | go_guarded | go_step | go_upon)
  refine bodyPost_ret (v := .tuple #[.int .i64 (linkD D p q).2, .agg #[.string ⟨#[]⟩, .int .i64 0, .string ⟨#[]⟩, .int .i64 0], .agg #[.int .i64 0, .int .i64 0, .int .i64 0], .slice none 0 0]) ?_ rfl ⟨.slice none 0 0, rfl, World.ownsRow_nil _ _ _ _, ask_done HD.out HI5.out.bel HI5.out.size H6.out HS6.out HO6.out ?_ (fun g hg => by cases hg)⟩
  · rw [results_ask rfl]
    go_simp
  · exact out_ask7 _ _ _ _ _ _ _ _ _
set_option maxRecDepth 100000 in
set_option maxHeartbeats 6400000 in
theorem ask_remove {w W : World} {S : Nat → Prop} {P m : Nat} {D : Dk} (h : DS w W S P m D) (he : NF.Env w) (hm : m ≤ 100000) (c : Cal) (hk : c.what = 3) (hp : c.path.length ≤ maxLen) (hq : c.dest.length ≤ maxLen) :
    Calls Tryz.prog 19 #[.pointer (some ⟨P, 0, none⟩), calV c] W (AskPost w W S P (m + 1) (askD D c)) := by
  obtain ⟨wh, p, q, dt, md⟩ := c
  simp only at hk hp hq
  subst hk
  obtain ⟨X, hX, hXd⟩ := txt_of p
  obtain ⟨Y, hY, hYd⟩ := txt_of q
  obtain ⟨V, hV, hVd⟩ := txt_of dt
  have HA : Hid (askD D ⟨3, p, q, dt, md⟩ = ((removeD D p).1, errA (removeD D p).2)) := Lib.hid (by unfold askD; rw [if_neg (show ¬ ((3 : Int) = 0) by decide)]; rw [if_neg (show ¬ ((3 : Int) = 1) by decide)]; rw [if_neg (show ¬ ((3 : Int) = 2) by decide)]; rw [if_pos rfl])
  have HI5 := Lib.hid (ask5_is W 3 md X Y V)
  have CX : Hid (∀ W5, Ask5 W W5 3 md X Y V → Calls Tryz.prog 52 #[.pointer (some ⟨P, 0, none⟩), .string X] W5 fun r W6 => r = .returned (.int .i64 (removeD D p).2) ∧ Aft w W5 S P (m + 1) (removeD D p).1 W6) := Lib.hid (fun W5 h5 => by
    have h' := h.below h5.bel
    have := h'.remove he hm p hp
    rw [hX] at this
    exact this)
  have HD := Lib.hid h
  unfold calV
  simp only
  rw [HA.out, hX, hY, hV]
  obtain ⟨W5, hW5⟩ : ∃ z, ask5 W 3 md X Y V = z := ⟨_, rfl⟩
  rw [hW5] at HI5
  unfold ask5 at hW5
  obtain ⟨d0, d1, d2, d3, d4, d5⟩ := row5c HI5.out.r0
  obtain ⟨-, -, -, -, tf⟩ := row4 HI5.out.r3
  have CY := Lib.hid (CX.out W5 HI5.out)
  clear h he hm hp hq hX hY hV hXd hYd hVd
  go_enter Tryz.func19, Tryz.ntmps19
  repeat (first | (go_at_call 52; fail) | go_skip | go_guarded | go_step | go_upon)
  try rw [hW5]
  refine CY.out.mono ?_
  rintro r W6 ⟨rfl, S6, h6, hs6, ho6⟩
  simp only []
  obtain ⟨r1, r2, r3, r4⟩ := HI5.out.keep HD.out ho6
  obtain ⟨t0, t1, t2, t3, tf⟩ := row4 r1
  obtain ⟨s0, s1, s2, sf⟩ := row3 r2
  obtain ⟨y0, y1, y2, y3, yf⟩ := row4 r3
  obtain ⟨x0, x1, x2, xf⟩ := row3 r4
  have H6 := Lib.hid h6
  have HS6 := Lib.hid hs6
  have HO6 := Lib.hid ho6
  clear h6 hs6 ho6 r1 r2 r3 r4 d0 d1 d2 d3 d4 d5
  repeat (first | go_skip | go_guarded | go_step | go_upon)
  go_region
  repeat (first | go_skip | go_guarded | go_step | go_upon)
  refine bodyPost_ret (v := .tuple #[.int .i64 (removeD D p).2, .agg #[.string ⟨#[]⟩, .int .i64 0, .string ⟨#[]⟩, .int .i64 0], .agg #[.int .i64 0, .int .i64 0, .int .i64 0], .slice none 0 0]) ?_ rfl ⟨.slice none 0 0, rfl, World.ownsRow_nil _ _ _ _, ask_done HD.out HI5.out.bel HI5.out.size H6.out HS6.out HO6.out ?_ (fun g hg => by cases hg)⟩
  · rw [results_ask rfl]
    go_simp
  · exact out_ask7 _ _ _ _ _ _ _ _ _
set_option maxRecDepth 100000 in
set_option maxHeartbeats 6400000 in
theorem ask_move {w W : World} {S : Nat → Prop} {P m : Nat} {D : Dk} (h : DS w W S P m D) (he : NF.Env w) (hm : m ≤ 100000) (c : Cal) (hk : c.what = 4) (hp : c.path.length ≤ maxLen) (hq : c.dest.length ≤ maxLen) :
    Calls Tryz.prog 19 #[.pointer (some ⟨P, 0, none⟩), calV c] W (AskPost w W S P (m + 1) (askD D c)) := by
  obtain ⟨wh, p, q, dt, md⟩ := c
  simp only at hk hp hq
  subst hk
  obtain ⟨X, hX, hXd⟩ := txt_of p
  obtain ⟨Y, hY, hYd⟩ := txt_of q
  obtain ⟨V, hV, hVd⟩ := txt_of dt
  have HA : Hid (askD D ⟨4, p, q, dt, md⟩ = ((moveD D p q).1, errA (moveD D p q).2)) := Lib.hid (by unfold askD; rw [if_neg (show ¬ ((4 : Int) = 0) by decide)]; rw [if_neg (show ¬ ((4 : Int) = 1) by decide)]; rw [if_neg (show ¬ ((4 : Int) = 2) by decide)]; rw [if_neg (show ¬ ((4 : Int) = 3) by decide)]; rw [if_pos rfl])
  have HI5 := Lib.hid (ask5_is W 4 md X Y V)
  have CX : Hid (∀ W5, Ask5 W W5 4 md X Y V → Calls Tryz.prog 53 #[.pointer (some ⟨P, 0, none⟩), .string X, .string Y] W5 fun r W6 => r = .returned (.int .i64 (moveD D p q).2) ∧ Aft w W5 S P (m + 1) (moveD D p q).1 W6) := Lib.hid (fun W5 h5 => by
    have h' := h.below h5.bel
    have := h'.move he hm p q hp hq
    rw [hX, hY] at this
    exact this)
  have HD := Lib.hid h
  unfold calV
  simp only
  rw [HA.out, hX, hY, hV]
  obtain ⟨W5, hW5⟩ : ∃ z, ask5 W 4 md X Y V = z := ⟨_, rfl⟩
  rw [hW5] at HI5
  unfold ask5 at hW5
  obtain ⟨d0, d1, d2, d3, d4, d5⟩ := row5c HI5.out.r0
  obtain ⟨-, -, -, -, tf⟩ := row4 HI5.out.r3
  have CY := Lib.hid (CX.out W5 HI5.out)
  clear h he hm hp hq hX hY hV hXd hYd hVd
  go_enter Tryz.func19, Tryz.ntmps19
  repeat (first | (go_at_call 53; fail) | go_skip | go_guarded | go_step | go_upon)
  try rw [hW5]
  refine CY.out.mono ?_
  rintro r W6 ⟨rfl, S6, h6, hs6, ho6⟩
  simp only []
  obtain ⟨r1, r2, r3, r4⟩ := HI5.out.keep HD.out ho6
  obtain ⟨t0, t1, t2, t3, tf⟩ := row4 r1
  obtain ⟨s0, s1, s2, sf⟩ := row3 r2
  obtain ⟨y0, y1, y2, y3, yf⟩ := row4 r3
  obtain ⟨x0, x1, x2, xf⟩ := row3 r4
  have H6 := Lib.hid h6
  have HS6 := Lib.hid hs6
  have HO6 := Lib.hid ho6
  clear h6 hs6 ho6 r1 r2 r3 r4 d0 d1 d2 d3 d4 d5
  repeat (first | go_skip | go_guarded | go_step | go_upon)
  go_region
  repeat (first | go_skip | go_guarded | go_step | go_upon)
  refine bodyPost_ret (v := .tuple #[.int .i64 (moveD D p q).2, .agg #[.string ⟨#[]⟩, .int .i64 0, .string ⟨#[]⟩, .int .i64 0], .agg #[.int .i64 0, .int .i64 0, .int .i64 0], .slice none 0 0]) ?_ rfl ⟨.slice none 0 0, rfl, World.ownsRow_nil _ _ _ _, ask_done HD.out HI5.out.bel HI5.out.size H6.out HS6.out HO6.out ?_ (fun g hg => by cases hg)⟩
  · rw [results_ask rfl]
    go_simp
  · exact out_ask7 _ _ _ _ _ _ _ _ _
set_option maxRecDepth 100000 in
set_option maxHeartbeats 6400000 in
theorem ask_replace {w W : World} {S : Nat → Prop} {P m : Nat} {D : Dk} (h : DS w W S P m D) (he : NF.Env w) (hm : m ≤ 100000) (c : Cal) (hk : c.what = 5) (hp : c.path.length ≤ maxLen) (hq : c.dest.length ≤ maxLen) :
    Calls Tryz.prog 19 #[.pointer (some ⟨P, 0, none⟩), calV c] W (AskPost w W S P (m + 1) (askD D c)) := by
  obtain ⟨wh, p, q, dt, md⟩ := c
  simp only at hk hp hq
  subst hk
  obtain ⟨X, hX, hXd⟩ := txt_of p
  obtain ⟨Y, hY, hYd⟩ := txt_of q
  obtain ⟨V, hV, hVd⟩ := txt_of dt
  have HA : Hid (askD D ⟨5, p, q, dt, md⟩ = ((replaceD D p q).1, errA (replaceD D p q).2)) := Lib.hid (by unfold askD; rw [if_neg (show ¬ ((5 : Int) = 0) by decide)]; rw [if_neg (show ¬ ((5 : Int) = 1) by decide)]; rw [if_neg (show ¬ ((5 : Int) = 2) by decide)]; rw [if_neg (show ¬ ((5 : Int) = 3) by decide)]; rw [if_neg (show ¬ ((5 : Int) = 4) by decide)]; rw [if_pos rfl])
  have HI5 := Lib.hid (ask5_is W 5 md X Y V)
  have CX : Hid (∀ W5, Ask5 W W5 5 md X Y V → Calls Tryz.prog 29 #[.pointer (some ⟨P, 0, none⟩), .string X, .string Y] W5 fun r W6 => r = .returned (.int .i64 (replaceD D p q).2) ∧ Aft w W5 S P (m + 1) (replaceD D p q).1 W6) := Lib.hid (fun W5 h5 => by
    have h' := h.below h5.bel
    have := h'.replace he hm p q hp hq
    rw [hX, hY] at this
    exact this)
  have HD := Lib.hid h
  unfold calV
  simp only
  rw [HA.out, hX, hY, hV]
  obtain ⟨W5, hW5⟩ : ∃ z, ask5 W 5 md X Y V = z := ⟨_, rfl⟩
  rw [hW5] at HI5
  unfold ask5 at hW5
  obtain ⟨d0, d1, d2, d3, d4, d5⟩ := row5c HI5.out.r0
  obtain ⟨-, -, -, -, tf⟩ := row4 HI5.out.r3
  have CY := Lib.hid (CX.out W5 HI5.out)
  clear h he hm hp hq hX hY hV hXd hYd hVd
  go_enter Tryz.func19, Tryz.ntmps19
  repeat (first | (go_at_call 29; fail) | go_skip | go_guarded | go_step | go_upon)
  try rw [hW5]
  refine CY.out.mono ?_
  rintro r W6 ⟨rfl, S6, h6, hs6, ho6⟩
  simp only []
  obtain ⟨r1, r2, r3, r4⟩ := HI5.out.keep HD.out ho6
  obtain ⟨t0, t1, t2, t3, tf⟩ := row4 r1
  obtain ⟨s0, s1, s2, sf⟩ := row3 r2
  obtain ⟨y0, y1, y2, y3, yf⟩ := row4 r3
  obtain ⟨x0, x1, x2, xf⟩ := row3 r4
  have H6 := Lib.hid h6
  have HS6 := Lib.hid hs6
  have HO6 := Lib.hid ho6
  clear h6 hs6 ho6 r1 r2 r3 r4 d0 d1 d2 d3 d4 d5
  repeat (first | go_skip | go_guarded | go_step | go_upon)
  go_region
  repeat (first | go_skip | go_guarded | go_step | go_upon)
  refine bodyPost_ret (v := .tuple #[.int .i64 (replaceD D p q).2, .agg #[.string ⟨#[]⟩, .int .i64 0, .string ⟨#[]⟩, .int .i64 0], .agg #[.int .i64 0, .int .i64 0, .int .i64 0], .slice none 0 0]) ?_ rfl ⟨.slice none 0 0, rfl, World.ownsRow_nil _ _ _ _, ask_done HD.out HI5.out.bel HI5.out.size H6.out HS6.out HO6.out ?_ (fun g hg => by cases hg)⟩
  · rw [results_ask rfl]
    go_simp
  · exact out_ask7 _ _ _ _ _ _ _ _ _
set_option maxRecDepth 100000 in
set_option maxHeartbeats 6400000 in
theorem ask_sync {w W : World} {S : Nat → Prop} {P m : Nat} {D : Dk} (h : DS w W S P m D) (he : NF.Env w) (hm : m ≤ 100000) (c : Cal) (hk : c.what = 6) (hp : c.path.length ≤ maxLen) (hq : c.dest.length ≤ maxLen) :
    Calls Tryz.prog 19 #[.pointer (some ⟨P, 0, none⟩), calV c] W (AskPost w W S P (m + 1) (askD D c)) := by
  obtain ⟨wh, p, q, dt, md⟩ := c
  simp only at hk hp hq
  subst hk
  obtain ⟨X, hX, hXd⟩ := txt_of p
  obtain ⟨Y, hY, hYd⟩ := txt_of q
  obtain ⟨V, hV, hVd⟩ := txt_of dt
  have HA : Hid (askD D ⟨6, p, q, dt, md⟩ = ((syncD D p).1, errA (syncD D p).2)) := Lib.hid (by unfold askD; rw [if_neg (show ¬ ((6 : Int) = 0) by decide)]; rw [if_neg (show ¬ ((6 : Int) = 1) by decide)]; rw [if_neg (show ¬ ((6 : Int) = 2) by decide)]; rw [if_neg (show ¬ ((6 : Int) = 3) by decide)]; rw [if_neg (show ¬ ((6 : Int) = 4) by decide)]; rw [if_neg (show ¬ ((6 : Int) = 5) by decide)]; rw [if_pos rfl])
  have HI5 := Lib.hid (ask5_is W 6 md X Y V)
  have CX : Hid (∀ W5, Ask5 W W5 6 md X Y V → Calls Tryz.prog 26 #[.pointer (some ⟨P, 0, none⟩), .string X] W5 fun r W6 => r = .returned (.int .i64 (syncD D p).2) ∧ Aft w W5 S P (m + 1) (syncD D p).1 W6) := Lib.hid (fun W5 h5 => by
    have h' := h.below h5.bel
    have := h'.sync he hm p hp
    rw [hX] at this
    exact this)
  have HD := Lib.hid h
  unfold calV
  simp only
  rw [HA.out, hX, hY, hV]
  obtain ⟨W5, hW5⟩ : ∃ z, ask5 W 6 md X Y V = z := ⟨_, rfl⟩
  rw [hW5] at HI5
  unfold ask5 at hW5
  obtain ⟨d0, d1, d2, d3, d4, d5⟩ := row5c HI5.out.r0
  obtain ⟨-, -, -, -, tf⟩ := row4 HI5.out.r3
  have CY := Lib.hid (CX.out W5 HI5.out)
  clear h he hm hp hq hX hY hV hXd hYd hVd
  go_enter Tryz.func19, Tryz.ntmps19
  repeat (first | (go_at_call 26; fail) | go_skip | go_guarded | go_step | go_upon)
  try rw [hW5]
  refine CY.out.mono ?_
  rintro r W6 ⟨rfl, S6, h6, hs6, ho6⟩
  simp only []
  obtain ⟨r1, r2, r3, r4⟩ := HI5.out.keep HD.out ho6
  obtain ⟨t0, t1, t2, t3, tf⟩ := row4 r1
  obtain ⟨s0, s1, s2, sf⟩ := row3 r2
  obtain ⟨y0, y1, y2, y3, yf⟩ := row4 r3
  obtain ⟨x0, x1, x2, xf⟩ := row3 r4
  have H6 := Lib.hid h6
  have HS6 := Lib.hid hs6
  have HO6 := Lib.hid ho6
  clear h6 hs6 ho6 r1 r2 r3 r4 d0 d1 d2 d3 d4 d5
  repeat (first | go_skip | go_guarded | go_step | go_upon)
  go_region
  repeat (first | go_skip | go_guarded | go_step | go_upon)
  refine bodyPost_ret (v := .tuple #[.int .i64 (syncD D p).2, .agg #[.string ⟨#[]⟩, .int .i64 0, .string ⟨#[]⟩, .int .i64 0], .agg #[.int .i64 0, .int .i64 0, .int .i64 0], .slice none 0 0]) ?_ rfl ⟨.slice none 0 0, rfl, World.ownsRow_nil _ _ _ _, ask_done HD.out HI5.out.bel HI5.out.size H6.out HS6.out HO6.out ?_ (fun g hg => by cases hg)⟩
  · rw [results_ask rfl]
    go_simp
  · exact out_ask7 _ _ _ _ _ _ _ _ _
set_option maxRecDepth 100000 in
set_option maxHeartbeats 6400000 in
theorem ask_flush {w W : World} {S : Nat → Prop} {P m : Nat} {D : Dk} (h : DS w W S P m D) (he : NF.Env w) (hm : m ≤ 100000) (c : Cal) (hk : c.what = 7) (hp : c.path.length ≤ maxLen) (hq : c.dest.length ≤ maxLen) :
    Calls Tryz.prog 19 #[.pointer (some ⟨P, 0, none⟩), calV c] W (AskPost w W S P (m + 1) (askD D c)) := by
  obtain ⟨wh, p, q, dt, md⟩ := c
  simp only at hk hp hq
  subst hk
  obtain ⟨X, hX, hXd⟩ := txt_of p
  obtain ⟨Y, hY, hYd⟩ := txt_of q
  obtain ⟨V, hV, hVd⟩ := txt_of dt
  have HA : Hid (askD D ⟨7, p, q, dt, md⟩ = ((flushD D).1, errA (flushD D).2)) := Lib.hid (by unfold askD; rw [if_neg (show ¬ ((7 : Int) = 0) by decide)]; rw [if_neg (show ¬ ((7 : Int) = 1) by decide)]; rw [if_neg (show ¬ ((7 : Int) = 2) by decide)]; rw [if_neg (show ¬ ((7 : Int) = 3) by decide)]; rw [if_neg (show ¬ ((7 : Int) = 4) by decide)]; rw [if_neg (show ¬ ((7 : Int) = 5) by decide)]; rw [if_neg (show ¬ ((7 : Int) = 6) by decide)]; rw [if_pos rfl])
  have HI5 := Lib.hid (ask5_is W 7 md X Y V)
  have CX : Hid (∀ W5, Ask5 W W5 7 md X Y V → Calls Tryz.prog 27 #[.pointer (some ⟨P, 0, none⟩)] W5 fun r W6 => r = .returned (.int .i64 (flushD D).2) ∧ Aft w W5 S P (m + 1) (flushD D).1 W6) := Lib.hid (fun W5 h5 => by
    have h' := h.below h5.bel
    have := h'.flush he hm 
    exact this)
  have HD := Lib.hid h
  unfold calV
  simp only
  rw [HA.out, hX, hY, hV]
  obtain ⟨W5, hW5⟩ : ∃ z, ask5 W 7 md X Y V = z := ⟨_, rfl⟩
  rw [hW5] at HI5
  unfold ask5 at hW5
  obtain ⟨d0, d1, d2, d3, d4, d5⟩ := row5c HI5.out.r0
  obtain ⟨-, -, -, -, tf⟩ := row4 HI5.out.r3
  have CY := Lib.hid (CX.out W5 HI5.out)
  clear h he hm hp hq hX hY hV hXd hYd hVd
  go_enter Tryz.func19, Tryz.ntmps19
  repeat (first | (go_at_call 27; fail) | go_skip | go_guarded | go_step | go_upon)
  try rw [hW5]
  refine CY.out.mono ?_
  rintro r W6 ⟨rfl, S6, h6, hs6, ho6⟩
  simp only []
  obtain ⟨r1, r2, r3, r4⟩ := HI5.out.keep HD.out ho6
  obtain ⟨t0, t1, t2, t3, tf⟩ := row4 r1
  obtain ⟨s0, s1, s2, sf⟩ := row3 r2
  obtain ⟨y0, y1, y2, y3, yf⟩ := row4 r3
  obtain ⟨x0, x1, x2, xf⟩ := row3 r4
  have H6 := Lib.hid h6
  have HS6 := Lib.hid hs6
  have HO6 := Lib.hid ho6
  clear h6 hs6 ho6 r1 r2 r3 r4 d0 d1 d2 d3 d4 d5
  repeat (first | go_skip | go_guarded | go_step | go_upon)
  go_region
  repeat (first | go_skip | go_guarded | go_step | go_upon)
  refine bodyPost_ret (v := .tuple #[.int .i64 (flushD D).2, .agg #[.string ⟨#[]⟩, .int .i64 0, .string ⟨#[]⟩, .int .i64 0], .agg #[.int .i64 0, .int .i64 0, .int .i64 0], .slice none 0 0]) ?_ rfl ⟨.slice none 0 0, rfl, World.ownsRow_nil _ _ _ _, ask_done HD.out HI5.out.bel HI5.out.size H6.out HS6.out HO6.out ?_ (fun g hg => by cases hg)⟩
  · rw [results_ask rfl]
    go_simp
  · exact out_ask7 _ _ _ _ _ _ _ _ _
set_option maxRecDepth 100000 in
set_option maxHeartbeats 6400000 in
theorem ask_get {w W : World} {S : Nat → Prop} {P m : Nat} {D : Dk} (h : DS w W S P m D) (he : NF.Env w) (hm : m ≤ 100000) (c : Cal) (hk : c.what = 8) (hp : c.path.length ≤ maxLen) (hq : c.dest.length ≤ maxLen) :
    Calls Tryz.prog 19 #[.pointer (some ⟨P, 0, none⟩), calV c] W (AskPost w W S P (m + 1) (askD D c)) := by
  obtain ⟨wh, p, q, dt, md⟩ := c
  simp only at hk hp hq
  subst hk
  obtain ⟨X, hX, hXd⟩ := txt_of p
  obtain ⟨Y, hY, hYd⟩ := txt_of q
  obtain ⟨V, hV, hVd⟩ := txt_of dt
  have HA : Hid (askD D ⟨8, p, q, dt, md⟩ = ((getD D p).1, ⟨(getD D p).2.2.2, (getD D p).2.1, (getD D p).2.2.1, []⟩)) := Lib.hid (by unfold askD; rw [if_neg (show ¬ ((8 : Int) = 0) by decide)]; rw [if_neg (show ¬ ((8 : Int) = 1) by decide)]; rw [if_neg (show ¬ ((8 : Int) = 2) by decide)]; rw [if_neg (show ¬ ((8 : Int) = 3) by decide)]; rw [if_neg (show ¬ ((8 : Int) = 4) by decide)]; rw [if_neg (show ¬ ((8 : Int) = 5) by decide)]; rw [if_neg (show ¬ ((8 : Int) = 6) by decide)]; rw [if_neg (show ¬ ((8 : Int) = 7) by decide)]; rw [if_pos rfl])
  have HI5 := Lib.hid (ask5_is W 8 md X Y V)
  have CX : Hid (∀ W5, Ask5 W W5 8 md X Y V → Calls Tryz.prog 28 #[.pointer (some ⟨P, 0, none⟩), .string X] W5 fun r W6 => r = .returned (.tuple #[ndVal (getD D p).2.1, stampVal (getD D p).2.2.1, .int .i64 (getD D p).2.2.2]) ∧ Aft w W5 S P (m + 1) (getD D p).1 W6) := Lib.hid (fun W5 h5 => by
    have h' := h.below h5.bel
    have := h'.get he hm p hp
    rw [hX] at this
    exact this)
  have HD := Lib.hid h
  unfold calV
  simp only
  rw [HA.out, hX, hY, hV]
  obtain ⟨W5, hW5⟩ : ∃ z, ask5 W 8 md X Y V = z := ⟨_, rfl⟩
  rw [hW5] at HI5
  unfold ask5 at hW5
  obtain ⟨Zg, hZg⟩ : ∃ z, DP.getD D p = z := ⟨_, rfl⟩
  rw [hZg] at CX ⊢
  obtain ⟨E9, ⟨gp, gk, gd, gm⟩, ⟨st1, st2, st3⟩, ge⟩ := Zg
  obtain ⟨X1, hX1, _⟩ := txt_of gp
  obtain ⟨X2, hX2, _⟩ := txt_of gd
  unfold ndVal stampVal at CX
  simp only at CX ⊢
  rw [hX1, hX2] at CX
  have HG1 := Lib.hid hX1
  have HG2 := Lib.hid hX2
  clear hZg hX1 hX2
  obtain ⟨d0, d1, d2, d3, d4, d5⟩ := row5c HI5.out.r0
  obtain ⟨-, -, -, -, tf⟩ := row4 HI5.out.r3
  have CY := Lib.hid (CX.out W5 HI5.out)
  clear h he hm hp hq hX hY hV hXd hYd hVd
  go_enter Tryz.func19, Tryz.ntmps19
  repeat (first | (go_at_call 28; fail) | go_skip | go_guarded | go_step | go_upon)
  try rw [hW5]
  refine CY.out.mono ?_
  rintro r W6 ⟨rfl, S6, h6, hs6, ho6⟩
  simp only []
  obtain ⟨r1, r2, r3, r4⟩ := HI5.out.keep HD.out ho6
  obtain ⟨t0, t1, t2, t3, tf⟩ := row4 r1
  obtain ⟨s0, s1, s2, sf⟩ := row3 r2
  obtain ⟨y0, y1, y2, y3, yf⟩ := row4 r3
  obtain ⟨x0, x1, x2, xf⟩ := row3 r4
  have H6 := Lib.hid h6
  have HS6 := Lib.hid hs6
  have HO6 := Lib.hid ho6
  clear h6 hs6 ho6 r1 r2 r3 r4 d0 d1 d2 d3 d4 d5
  repeat (first | go_skip | go_guarded | go_step | go_upon)
  go_region
  repeat (first | go_skip | go_guarded | go_step | go_upon)
  refine bodyPost_ret (v := .tuple #[.int .i64 ge, .agg #[.string X1, .int .i64 gk, .string X2, .int .i64 gm], .agg #[.int .i64 st1, .int .i64 st2, .int .i64 st3], .slice none 0 0]) ?_ rfl ⟨.slice none 0 0, ?_, World.ownsRow_nil _ _ _ _, ask_done HD.out HI5.out.bel HI5.out.size H6.out HS6.out HO6.out ?_ (fun g hg => by cases hg)⟩
  · rw [results_ask rfl]
    go_simp
  · unfold ndVal stampVal
    simp only
    rw [HG1.out, HG2.out]
  · exact out_ask14 _ _ _ _ _ _ _ _ _ _ _ _ _ _ _ _
set_option maxRecDepth 100000 in
set_option maxHeartbeats 6400000 in
theorem ask_names {w W : World} {S : Nat → Prop} {P m : Nat} {D : Dk} (h : DS w W S P m D) (he : NF.Env w) (hm : m ≤ 100000) (c : Cal) (hk : c.what = 9) (hp : c.path.length ≤ maxLen) (hq : c.dest.length ≤ maxLen) :
    Calls Tryz.prog 19 #[.pointer (some ⟨P, 0, none⟩), calV c] W (AskPost w W S P (m + 1) (askD D c)) := by
  obtain ⟨wh, p, q, dt, md⟩ := c
  simp only at hk hp hq
  subst hk
  obtain ⟨X, hX, hXd⟩ := txt_of p
  obtain ⟨Y, hY, hYd⟩ := txt_of q
  obtain ⟨V, hV, hVd⟩ := txt_of dt
  have HA : Hid (askD D ⟨9, p, q, dt, md⟩ = ((namesR D p).1, ⟨(namesR D p).2, nodeZ, stampZ, lastsR (namesR D p) p⟩)) := Lib.hid (by unfold askD; rw [if_neg (show ¬ ((9 : Int) = 0) by decide)]; rw [if_neg (show ¬ ((9 : Int) = 1) by decide)]; rw [if_neg (show ¬ ((9 : Int) = 2) by decide)]; rw [if_neg (show ¬ ((9 : Int) = 3) by decide)]; rw [if_neg (show ¬ ((9 : Int) = 4) by decide)]; rw [if_neg (show ¬ ((9 : Int) = 5) by decide)]; rw [if_neg (show ¬ ((9 : Int) = 6) by decide)]; rw [if_neg (show ¬ ((9 : Int) = 7) by decide)]; rw [if_neg (show ¬ ((9 : Int) = 8) by decide)]; rw [if_pos rfl])
  have HI5 := Lib.hid (ask5_is W 9 md X Y V)
  have CX : Hid (∀ W5, Ask5 W W5 9 md X Y V → Calls Tryz.prog 30 #[.pointer (some ⟨P, 0, none⟩), .string X] W5 fun r W6 => ∃ v, r = .returned (.tuple #[v, .int .i64 (namesR D p).2]) ∧ W6.ownsRow W5.heap.size 9 1 v (lastsR (namesR D p) p).length ((lastsR (namesR D p) p).map txt) ∧ AftN w W5 S P (m + 1) (namesR D p).1 v W6) := Lib.hid (fun W5 h5 => by
    have h' := h.below h5.bel
    have := h'.names he hm p hp
    rw [hX] at this
    exact this)
  have HD := Lib.hid h
  unfold calV
  simp only
  rw [HA.out, hX, hY, hV]
  obtain ⟨W5, hW5⟩ : ∃ z, ask5 W 9 md X Y V = z := ⟨_, rfl⟩
  rw [hW5] at HI5
  unfold ask5 at hW5
  obtain ⟨d0, d1, d2, d3, d4, d5⟩ := row5c HI5.out.r0
  obtain ⟨-, -, -, -, tf⟩ := row4 HI5.out.r3
  have CY := Lib.hid (CX.out W5 HI5.out)
  clear h he hm hp hq hX hY hV hXd hYd hVd
  go_enter Tryz.func19, Tryz.ntmps19
  repeat (first | (go_at_call 30; fail) | go_skip | go_guarded | go_step | go_upon)
  try rw [hW5]
  refine CY.out.mono ?_
  rintro r W6 ⟨v, rfl, ho, S6, h6, hs6, ho6, hg6⟩
  obtain ⟨av, cv, hv, _⟩ := owns_view ho
  obtain ⟨nv, hnv⟩ : ∃ n, (lastsR (namesR D p) p).length = n := ⟨_, rfl⟩
  have HNv := Lib.hid hnv
  rw [hnv] at hv
  subst hv
  have HOw := Lib.hid ho
  have HG6 := Lib.hid hg6
  clear ho hg6 hnv
  simp only []
  obtain ⟨r1, r2, r3, r4⟩ := HI5.out.keep HD.out ho6
  obtain ⟨t0, t1, t2, t3, tf⟩ := row4 r1
  obtain ⟨s0, s1, s2, sf⟩ := row3 r2
  obtain ⟨y0, y1, y2, y3, yf⟩ := row4 r3
  obtain ⟨x0, x1, x2, xf⟩ := row3 r4
  have H6 := Lib.hid h6
  have HS6 := Lib.hid hs6
  have HO6 := Lib.hid ho6
  clear h6 hs6 ho6 r1 r2 r3 r4 d0 d1 d2 d3 d4 d5
  repeat (first | go_skip | go_guarded | go_step | go_upon)
  go_region
  repeat (first | go_skip | go_guarded | go_step | go_upon)
  refine bodyPost_ret (v := .tuple #[.int .i64 (namesR D p).2, .agg #[.string ⟨#[]⟩, .int .i64 0, .string ⟨#[]⟩, .int .i64 0], .agg #[.int .i64 0, .int .i64 0, .int .i64 0], .slice av nv cv]) ?_ rfl ⟨.slice av nv cv, rfl, ?_, ask_done HD.out HI5.out.bel HI5.out.size H6.out HS6.out HO6.out ?_ HG6.out⟩
  · rw [results_ask rfl]
    go_simp
  · rw [HNv.out]
    have h1 := owns_base HOw.out W.heap.size HI5.out.bel.size
    rw [HNv.out] at h1
    refine Out.owns (S := fun k => W.heap.size + 1 ≤ k ∧ k ≤ W.heap.size + 4) (w := W6) ?_ h1 (fun g hg => by
      have := (HOw.out.lt g (by rw [← hg])).1
      have := HI5.out.size
      omega)
    exact out_ask7 _ _ _ _ _ _ _ _ _
  · exact out_ask7 _ _ _ _ _ _ _ _ _
set_option maxRecDepth 100000 in
set_option maxHeartbeats 6400000 in
theorem ask_boot {w W : World} {S : Nat → Prop} {P m : Nat} {D : Dk} (h : DS w W S P m D) (he : NF.Env w) (hm : m ≤ 100000) (c : Cal) (hk : c.what = 10) (hp : c.path.length ≤ maxLen) (hq : c.dest.length ≤ maxLen) :
    Calls Tryz.prog 19 #[.pointer (some ⟨P, 0, none⟩), calV c] W (AskPost w W S P (m + 1) (askD D c)) := by
  obtain ⟨wh, p, q, dt, md⟩ := c
  simp only at hk hp hq
  subst hk
  obtain ⟨X, hX, hXd⟩ := txt_of p
  obtain ⟨Y, hY, hYd⟩ := txt_of q
  obtain ⟨V, hV, hVd⟩ := txt_of dt
  have HA : Hid (askD D ⟨10, p, q, dt, md⟩ = (bootD D [] [], errA 0)) := Lib.hid (by unfold askD; rw [if_neg (show ¬ ((10 : Int) = 0) by decide)]; rw [if_neg (show ¬ ((10 : Int) = 1) by decide)]; rw [if_neg (show ¬ ((10 : Int) = 2) by decide)]; rw [if_neg (show ¬ ((10 : Int) = 3) by decide)]; rw [if_neg (show ¬ ((10 : Int) = 4) by decide)]; rw [if_neg (show ¬ ((10 : Int) = 5) by decide)]; rw [if_neg (show ¬ ((10 : Int) = 6) by decide)]; rw [if_neg (show ¬ ((10 : Int) = 7) by decide)]; rw [if_neg (show ¬ ((10 : Int) = 8) by decide)]; rw [if_neg (show ¬ ((10 : Int) = 9) by decide)]; rw [if_pos rfl])
  have HI5 := Lib.hid (ask5_is W 10 md X Y V)
  have CX : Hid (∀ W5, Ask5 W W5 10 md X Y V → Calls Tryz.prog 17 #[.pointer (some ⟨P, 0, none⟩), .slice none 0 0, .slice none 0 0] W5 fun r W6 => r = .returned (.tuple #[]) ∧ Aft w W5 S P (m + 1) (bootD D [] []) W6) := Lib.hid (fun W5 h5 => by
    have h' := h.below h5.bel
    refine h'.boot0.mono ?_
    rintro r W6 ⟨hr, S6, h6, h7, h8⟩
    exact ⟨hr, S6, h6.mono (by omega), h7, h8⟩)
  have HD := Lib.hid h
  unfold calV
  simp only
  rw [HA.out, hX, hY, hV]
  obtain ⟨W5, hW5⟩ : ∃ z, ask5 W 10 md X Y V = z := ⟨_, rfl⟩
  rw [hW5] at HI5
  unfold ask5 at hW5
  obtain ⟨d0, d1, d2, d3, d4, d5⟩ := row5c HI5.out.r0
  obtain ⟨-, -, -, -, tf⟩ := row4 HI5.out.r3
  have CY := Lib.hid (CX.out W5 HI5.out)
  clear h he hm hp hq hX hY hV hXd hYd hVd
  go_enter Tryz.func19, Tryz.ntmps19
  repeat (first | (go_at_call 17; fail) | go_skip | go_guarded | go_step | go_upon)
  try rw [hW5]
  refine CY.out.mono ?_
  rintro r W6 ⟨rfl, S6, h6, hs6, ho6⟩
  simp only []
  obtain ⟨r1, r2, r3, r4⟩ := HI5.out.keep HD.out ho6
  obtain ⟨t0, t1, t2, t3, tf⟩ := row4 r1
  obtain ⟨s0, s1, s2, sf⟩ := row3 r2
  obtain ⟨y0, y1, y2, y3, yf⟩ := row4 r3
  obtain ⟨x0, x1, x2, xf⟩ := row3 r4
  have H6 := Lib.hid h6
  have HS6 := Lib.hid hs6
  have HO6 := Lib.hid ho6
  clear h6 hs6 ho6 r1 r2 r3 r4 d0 d1 d2 d3 d4 d5
  repeat (first | go_skip | go_guarded | go_step | go_upon)
  go_region
  repeat (first | go_skip | go_guarded | go_step | go_upon)
  refine bodyPost_ret (v := .tuple #[.int .i64 0, .agg #[.string ⟨#[]⟩, .int .i64 0, .string ⟨#[]⟩, .int .i64 0], .agg #[.int .i64 0, .int .i64 0, .int .i64 0], .slice none 0 0]) ?_ rfl ⟨.slice none 0 0, rfl, World.ownsRow_nil _ _ _ _, ask_done HD.out HI5.out.bel HI5.out.size H6.out HS6.out HO6.out ?_ (fun g hg => by cases hg)⟩
  · rw [results_ask rfl]
    go_simp
  · exact out_ask7 _ _ _ _ _ _ _ _ _
set_option maxRecDepth 100000 in
set_option maxHeartbeats 6400000 in
theorem ask_none {w W : World} {S : Nat → Prop} {P m : Nat} {D : Dk} (h : DS w W S P m D) (he : NF.Env w) (hm : m ≤ 100000) (c : Cal) (hk : c.what ≠ 0 ∧ c.what ≠ 1 ∧ c.what ≠ 2 ∧ c.what ≠ 3 ∧ c.what ≠ 4 ∧ c.what ≠ 5 ∧ c.what ≠ 6 ∧ c.what ≠ 7 ∧ c.what ≠ 8 ∧ c.what ≠ 9 ∧ c.what ≠ 10) (hp : c.path.length ≤ maxLen) (hq : c.dest.length ≤ maxLen) :
    Calls Tryz.prog 19 #[.pointer (some ⟨P, 0, none⟩), calV c] W (AskPost w W S P (m + 1) (askD D c)) := by
  obtain ⟨wh, p, q, dt, md⟩ := c
  simp only at hk hp hq
  obtain ⟨X, hX, hXd⟩ := txt_of p
  obtain ⟨Y, hY, hYd⟩ := txt_of q
  obtain ⟨V, hV, hVd⟩ := txt_of dt
  have HA : Hid (askD D ⟨wh, p, q, dt, md⟩ = (D, errA 0)) := Lib.hid (by obtain ⟨h0, h1, h2, h3, h4, h5, h6, h7, h8, h9, h10⟩ := hk; unfold askD; rw [if_neg h0, if_neg h1, if_neg h2, if_neg h3, if_neg h4, if_neg h5, if_neg h6, if_neg h7, if_neg h8, if_neg h9, if_neg h10])
  obtain ⟨h0, h1, h2, h3, h4, h5, h6, h7, h8, h9, h10⟩ := hk
  have b0 : (wh == 0) = false := by simpa using h0
  have b1 : (wh == 1) = false := by simpa using h1
  have b2 : (wh == 2) = false := by simpa using h2
  have b3 : (wh == 3) = false := by simpa using h3
  have b4 : (wh == 4) = false := by simpa using h4
  have b5 : (wh == 5) = false := by simpa using h5
  have b6 : (wh == 6) = false := by simpa using h6
  have b7 : (wh == 7) = false := by simpa using h7
  have b8 : (wh == 8) = false := by simpa using h8
  have b9 : (wh == 9) = false := by simpa using h9
  have b10 : (wh == 10) = false := by simpa using h10
  clear h0 h1 h2 h3 h4 h5 h6 h7 h8 h9 h10
  have HI5 := Lib.hid (ask5_is W wh md X Y V)
  have CX : Hid (∀ W5, Ask5 W W5 wh md X Y V → DS w W5 S P (m + 1) D ∧ (∀ k, S k → S k ∨ W5.heap.size ≤ k) ∧ Out (fun k => S k ∨ k = P) W5 W5) := Lib.hid (fun W5 h5 => by
    have h' := h.below h5.bel
    exact ⟨h'.mono (by omega), fun k hk => .inl hk, Out.refl _ _⟩)
  have HD := Lib.hid h
  unfold calV
  simp only
  rw [HA.out, hX, hY, hV]
  obtain ⟨W5, hW5⟩ : ∃ z, ask5 W wh md X Y V = z := ⟨_, rfl⟩
  rw [hW5] at HI5
  unfold ask5 at hW5
  obtain ⟨d0, d1, d2, d3, d4, d5⟩ := row5c HI5.out.r0
  obtain ⟨-, -, -, -, tf⟩ := row4 HI5.out.r3
  have CY := Lib.hid (CX.out W5 HI5.out)
  clear h he hm hp hq hX hY hV hXd hYd hVd
  go_enter Tryz.func19, Tryz.ntmps19
  repeat (first | go_skip | go_guarded | go_step | go_upon)
  try rw [hW5]
  have h6 := CY.out.1
  have hs6 := CY.out.2.1
  have ho6 := CY.out.2.2
  obtain ⟨r1, r2, r3, r4⟩ := HI5.out.keep HD.out ho6
  obtain ⟨t0, t1, t2, t3, tf⟩ := row4 r1
  obtain ⟨s0, s1, s2, sf⟩ := row3 r2
  obtain ⟨y0, y1, y2, y3, yf⟩ := row4 r3
  obtain ⟨x0, x1, x2, xf⟩ := row3 r4
  have H6 := Lib.hid h6
  have HS6 := Lib.hid hs6
  have HO6 := Lib.hid ho6
  clear h6 hs6 ho6 r1 r2 r3 r4
  repeat (first | go_skip | go_guarded | go_step | go_upon)
  go_region
  repeat (first | go_skip | go_guarded | go_step | go_upon)
  refine bodyPost_ret (v := .tuple #[.int .i64 0, .agg #[.string ⟨#[]⟩, .int .i64 0, .string ⟨#[]⟩, .int .i64 0], .agg #[.int .i64 0, .int .i64 0, .int .i64 0], .slice none 0 0]) ?_ rfl ⟨.slice none 0 0, rfl, World.ownsRow_nil _ _ _ _, ask_done HD.out HI5.out.bel HI5.out.size H6.out HS6.out HO6.out ?_ (fun g hg => by cases hg)⟩
  · rw [results_ask rfl]
    go_simp
  · exact out_ask7 _ _ _ _ _ _ _ _ _
theorem ask_any {w W : World} {S : Nat → Prop} {P m : Nat} {D : Dk} (h : DS w W S P m D) (he : NF.Env w) (hm : m ≤ 100000) (c : Cal) (hp : c.path.length ≤ maxLen) (hq : c.dest.length ≤ maxLen) :
    Calls Tryz.prog 19 #[.pointer (some ⟨P, 0, none⟩), calV c] W (AskPost w W S P (m + 1) (askD D c)) := by
  by_cases h0 : c.what = 0
  · exact ask_write h he hm c h0 hp hq
  by_cases h1 : c.what = 1
  · exact ask_mkdir h he hm c h1 hp hq
  by_cases h2 : c.what = 2
  · exact ask_link h he hm c h2 hp hq
  by_cases h3 : c.what = 3
  · exact ask_remove h he hm c h3 hp hq
  by_cases h4 : c.what = 4
  · exact ask_move h he hm c h4 hp hq
  by_cases h5 : c.what = 5
  · exact ask_replace h he hm c h5 hp hq
  by_cases h6 : c.what = 6
  · exact ask_sync h he hm c h6 hp hq
  by_cases h7 : c.what = 7
  · exact ask_flush h he hm c h7 hp hq
  by_cases h8 : c.what = 8
  · exact ask_get h he hm c h8 hp hq
  by_cases h9 : c.what = 9
  · exact ask_names h he hm c h9 hp hq
  by_cases h10 : c.what = 10
  · exact ask_boot h he hm c h10 hp hq
  exact ask_none h he hm c ⟨h0, h1, h2, h3, h4, h5, h6, h7, h8, h9, h10⟩ hp hq
end DG
end Go.Proofs.YtjkikkpbeceeeaaGreatDoor
end

section
/- Layer 7: the walk of DiskWhole. -/
namespace Go.Proofs.YtjkikkpbeceeeaaGreatDoor
open Go.RowKit Go.Lib Go.BigFrame
namespace DG
open OM TP TM DP DM TG TR FP

theorem DS.rebase {w w1 W : World} {S : Nat → Prop} {P m : Nat} {D : Dk} (h : DS w1 W S P m D) (hb : Below w.heap.size w w1) : DS w W S P m D :=
  ⟨h.disk, fun k hk => Nat.le_trans hb.size (h.lo k hk), Nat.le_trans hb.size h.pl, Below.trans hb (h.bel.mono hb.size), h.num⟩
theorem wide_one {w : World} {n : Nd} {g : Nat} {X Y : ByteArray} (hr : w.heap[g]? = some (.cells #[.string X, .int .i64 n.kind, .string Y, .int .i64 n.mode] 45 (0, 0))) (hX : txt n.path = .string X) (hY : txt n.data = .string Y) (hl : n.path.length ≤ maxLen) : TW.Wide w (some ⟨g, 0, none⟩) 1 [n] := by
  obtain ⟨c0, c1, c2, c3, _⟩ := row4 hr
  refine ⟨fun _ => ⟨g, 0, rfl, (Array.getElem?_eq_some_iff.1 hr).1, fun k x hk => ?_⟩, (fun e => by cases e), Nat.le_refl _, fun x hx => ?_, by unfold maxLen; simp⟩
  · match k with
    | 0 =>
      simp at hk
      subst hk
      exact ⟨c0.trans (by rw [hX]), c1, c2.trans (by rw [hY]), c3⟩
    | k + 1 => simp at hk
  · rw [List.mem_singleton.1 hx]
    exact hl
theorem wh_tree (o : List UInt8) (h : o.length ≤ 65536) : treeB [⟨[102], 1, o, 0⟩] = true := by
  have h1 : rightB ⟨[102], 1, o, 0⟩ = true := by
    unfold rightB
    show (if (1 : Int) = 1 then _ else _) = true
    rw [if_pos rfl]
    show (decide (o.length ≤ 65536) && decide ((0 : Int) ≤ 0) && decide ((0 : Int) ≤ 511)) = true
    rw [decide_eq_true h]
    rfl
  refine (tree_iff _).2 ⟨by simp, List.pairwise_singleton _ _, fun n hn => ?_, fun n hn => ?_, fun n hn => ?_⟩
  · rw [List.mem_singleton.1 hn]
    show NP.pathL [102] = true
    decide +kernel
  · rw [List.mem_singleton.1 hn]
    exact h1
  · rw [List.mem_singleton.1 hn]
    exact .inl (by show NP.upL [102] = []; decide +kernel)
set_option maxRecDepth 100000 in
set_option maxHeartbeats 12800000 in
theorem whole_any (O V : ByteArray) (fa fw fk ft : Int) (w : World) (he : NF.Env w) :
    Calls Tryz.prog 5 #[.string O, .string V, .agg #[.int .i64 fa, .int .i64 fw, .int .i64 fk, .int .i64 ft]] w fun r w' => r = .returned (.bool true) ∧ Below w.heap.size w w' := by
  have HE := Lib.hid he
  have b0 : Below w.heap.size w (w.alloc (.cells #[.int .i64 fa, .int .i64 fw, .int .i64 fk, .int .i64 ft] 63)) := (Below.refl _ _).alloc (Nat.le_refl _) _
  have hr0 := heap_alloc_new w (.cells #[.int .i64 fa, .int .i64 fw, .int .i64 fk, .int .i64 ft] 63)
  obtain ⟨w0, hw0⟩ : ∃ W, w.alloc (.cells #[.int .i64 fa, .int .i64 fw, .int .i64 fk, .int .i64 ft] 63) = W := ⟨_, rfl⟩
  rw [hw0] at b0 hr0
  have CA := Lib.hid (awake_any w0 (he.below b0))
  have B0 := Lib.hid b0
  have HR0 := Lib.hid hr0
  have HZ0 : Hid (w.heap.size < w0.heap.size) := Lib.hid (Array.getElem?_eq_some_iff.1 hr0).1
  clear he b0 hr0
  go_enter Tryz.func5, Tryz.ntmps5
  repeat (first | (go_at_call 9; fail) | go_skip | go_guarded | go_step | go_upon)
  try rw [hw0]
  clear hw0
  refine CA.out.mono ?_
  rintro r w1 ⟨rfl, hb1⟩
  simp only []
  have B1 : Hid (Below w.heap.size w w1) := Lib.hid (Below.trans B0.out (hb1.mono B0.out.size))
  have HR1 : Hid (w1.heap[w.heap.size]? = _) := Lib.hid ((hb1.block _ HZ0.out).trans HR0.out)
  have HZ1 : Hid (w.heap.size < w1.heap.size) := Lib.hid (Nat.lt_of_lt_of_le HZ0.out hb1.size)
  clear hb1
  by_cases hO : O.size ≤ 65536
  · have hOz : ¬ (65536 : Int) < (O.size : Int) := by omega
    by_cases hV : V.size ≤ 65536
    · have hVz : ¬ (65536 : Int) < (V.size : Int) := by omega
      have hOl : O.data.toList.length ≤ 65536 := by rw [← Lib.size_eq]; exact hO
      have HVl : Hid (V.data.toList.length ≤ 65536) := Lib.hid (by rw [← Lib.size_eq]; exact hV)
      have CN : Hid (Calls Tryz.prog 10 #[.slice (some ⟨w1.heap.size, 0, none⟩) 1 1] (w1.alloc (.cells #[.string ⟨#[102]⟩, .int .i64 1, .string O, .int .i64 0] 45)) fun r w' => ∃ S P, r = .returned (.tuple #[.pointer (some ⟨P, 0, none⟩), .int .i64 0]) ∧ DS (w1.alloc (.cells #[.string ⟨#[102]⟩, .int .i64 1, .string O, .int .i64 0] 45)) w' S P 0 (newD [⟨[102], 1, O.data.toList, 0⟩])) := Lib.hid (by
        refine new_ds (t := [⟨[102], 1, O.data.toList, 0⟩]) (HE.out.below (B1.out.alloc B1.out.size _)) (wide_one (heap_alloc_new w1 _) rfl (TM.txt_data O) (by show (1 : Nat) ≤ maxLen; unfold maxLen; omega)) (wh_tree _ hOl))
      have BA : Hid (Below w.heap.size w (w1.alloc (.cells #[.string ⟨#[102]⟩, .int .i64 1, .string O, .int .i64 0] 45))) := Lib.hid (B1.out.alloc B1.out.size _)
      clear hO hV hOl
      repeat (first | (go_at_call 10; fail) | go_skip | go_guarded | go_step | go_upon)
      refine CN.out.mono ?_
      rintro r w2 ⟨S, P, rfl, h2⟩
      simp only []
      have hbox : w2.heap[w.heap.size]? = some (.cells #[.int .i64 fa, .int .i64 fw, .int .i64 fk, .int .i64 ft] 63 (0, 0)) := (h2.bel.block _ (by have := HZ1.out; simp; omega)).trans ((Below.heap_alloc w1 _ _ HZ1.out).trans HR1.out)
      have hS : ¬ S w.heap.size ∧ w.heap.size ≠ P := by
        have h5 := HZ1.out
        refine ⟨fun h => ?_, ?_⟩
        · have := h2.lo _ h; simp at this; omega
        · have := h2.pl; simp at this; omega
      have h3 := h2.rebase BA.out
      have D3 : Hid (DS w (w2.setCell ⟨w.heap.size, 1, none⟩ (.int .i64 3)) S P 0 (newD [⟨[102], 1, O.data.toList, 0⟩])) := Lib.hid (by
        have u : Out (fun k => k = w.heap.size) w2 (w2.setCell ⟨w.heap.size, 1, none⟩ (.int .i64 3)) := (Out.refl (fun k => k = w.heap.size) w2).setCell (p := ⟨w.heap.size, 1, none⟩) (fun _ => rfl) _
        exact h3.out u (fun k hk => by
          have hk2 : k = w.heap.size := hk
          rw [hk2]
          exact ⟨hS.1, hS.2, Nat.le_refl _⟩))
      have hbox2 := row_set (j := 1) hbox (.int .i64 3)
      obtain ⟨c0, c1, c2, c3, cf⟩ := row4 hbox
      obtain ⟨k0, k1, k2, k3, kf⟩ := row4 (show (w2.setCell ⟨w.heap.size, 1, none⟩ (.int .i64 3)).heap[w.heap.size]? = some (.cells #[.int .i64 fa, .int .i64 3, .int .i64 fk, .int .i64 ft] 63 (0, 0)) from hbox2)
      clear h2 h3 hbox hbox2 hS
      repeat (first | (go_at_call 17; fail) | go_skip | go_guarded | go_step | go_upon)
      have CB := Lib.hid (D3.out.boot1 ⟨fa, 3, fk, ft⟩ rfl)
      rw [set_size] at CB
      refine CB.out.mono ?_
      rintro r w4 ⟨rfl, S4, h4, _, _⟩
      simp only []
      have CW : Hid (Calls Tryz.prog 12 #[.pointer (some ⟨P, 0, none⟩), .string ⟨#[103]⟩, .string V, .int .i64 0] w4 fun r W' => r = .returned (.int .i64 (writeD (wh1 O.data.toList fa fk ft) [103] V.data.toList 0).2) ∧ Aft w w4 S4 P 1 (writeD (wh1 O.data.toList fa fk ft) [103] V.data.toList 0).1 W') := Lib.hid (by
        have h4' : DS w w4 S4 P 0 (wh1 O.data.toList fa fk ft) := h4
        have := h4'.write HE.out (by omega) [103] V.data.toList 0 (by show (1 : Nat) ≤ maxLen; unfold maxLen; omega)
        rw [TM.txt_data V] at this
        exact this)
      obtain ⟨hw1, hw2, hw3, hw4⟩ := wh_all O.data.toList V.data.toList fa fk ft HVl.out
      obtain ⟨⟨DA, eA⟩, hA⟩ : ∃ z, writeD (wh1 O.data.toList fa fk ft) [103] V.data.toList 0 = z := ⟨_, rfl⟩
      rw [hA] at CW hw1 hw2 hw3 hw4
      simp only at CW hw1 hw2 hw3 hw4
      have H1 := Lib.hid hw1
      have H2 := Lib.hid hw2
      have H3 := Lib.hid hw3
      have H4 := Lib.hid hw4
      clear h4 hA hw1 hw2 hw3 hw4 k0 k1 k2 k3 kf c0 c1 c2 c3 cf
      repeat (first | (go_at_call 12; fail) | go_skip | go_guarded | go_step | go_upon)
      refine CW.out.mono ?_
      rintro r w5 ⟨rfl, S5, h5, _, _⟩
      simp only []
      have D5 := Lib.hid h5
      clear h5
      by_cases z1 : eA = 0
      · subst z1
        have CS : Hid (Calls Tryz.prog 26 #[.pointer (some ⟨P, 0, none⟩), .string ⟨#[103]⟩] w5 fun r W' => r = .returned (.int .i64 (syncD DA [103]).2) ∧ Aft w w5 S5 P 2 (syncD DA [103]).1 W') := Lib.hid (D5.out.sync HE.out (by omega) [103] (by show (1 : Nat) ≤ maxLen; unfold maxLen; omega))
        have H2' := Lib.hid (H2.out rfl)
        have H3' := Lib.hid (H3.out rfl)
        have H4' := Lib.hid (H4.out rfl)
        obtain ⟨⟨DB, eB⟩, hB⟩ : ∃ z, syncD DA [103] = z := ⟨_, rfl⟩
        rw [hB] at CS H2' H3' H4'
        simp only at CS H2' H3' H4'
        clear hB
        repeat (first | (go_at_call 26; fail) | go_skip | go_guarded | go_step | go_upon)
        refine CS.out.mono ?_
        rintro r w6 ⟨rfl, S6, h6, _, _⟩
        simp only []
        have D6 := Lib.hid h6
        clear h6
        by_cases z2 : eB = 0
        · subst z2
          have CR : Hid (Calls Tryz.prog 29 #[.pointer (some ⟨P, 0, none⟩), .string ⟨#[103]⟩, .string ⟨#[102]⟩] w6 fun r W' => r = .returned (.int .i64 (replaceD DB [103] [102]).2) ∧ Aft w w6 S6 P 3 (replaceD DB [103] [102]).1 W') := Lib.hid (D6.out.replace HE.out (by omega) [103] [102] (by show (1 : Nat) ≤ maxLen; unfold maxLen; omega) (by show (1 : Nat) ≤ maxLen; unfold maxLen; omega))
          have H3q := Lib.hid (H3'.out rfl)
          have H4q := Lib.hid (H4'.out rfl)
          obtain ⟨⟨DC, eC⟩, hC⟩ : ∃ z, replaceD DB [103] [102] = z := ⟨_, rfl⟩
          rw [hC] at CR H3q H4q
          simp only at CR H3q H4q
          clear hC
          repeat (first | (go_at_call 29; fail) | go_skip | go_guarded | go_step | go_upon)
          refine CR.out.mono ?_
          rintro r w7 ⟨rfl, S7, h7, _, _⟩
          simp only []
          have D7 := Lib.hid h7
          clear h7
          by_cases z3 : eC = 0
          · subst z3
            have CF := Lib.hid (D7.out.flush HE.out (by omega))
            have HOk0 := Lib.hid (H4q.out rfl)
            obtain ⟨⟨Dx, eD⟩, hD⟩ : ∃ z, flushD DC = z := ⟨_, rfl⟩
            rw [hD] at CF HOk0
            simp only at CF HOk0
            have HOk := HOk0
            clear hD
            repeat (first | (go_at_call 27; fail) | go_skip | go_guarded | go_step | go_upon)
            refine CF.out.mono ?_
            rintro r w8 ⟨rfl, S8, h8, _, _⟩
            simp only []
            have HDx := Lib.hid h8
            clear h8
            have CB := Lib.hid HDx.out.boot0
            repeat (first | (go_at_call 17; fail) | go_skip | go_guarded | go_step | go_upon)
            refine CB.out.mono ?_
            rintro r wb ⟨rfl, Sb, hb, _, _⟩
            simp only []
            have CG := Lib.hid (hb.get HE.out (by omega) [102] (by show (1 : Nat) ≤ maxLen; unfold maxLen; omega))
            have HBb := Lib.hid hb.bel
            obtain ⟨hz, hdat⟩ := wh_get _ _ HOk.out
            obtain ⟨Z, hZ⟩ : ∃ Z, DP.getD (bootD Dx [] []) [102] = Z := ⟨_, rfl⟩
            rw [hZ] at CG hz hdat
            obtain ⟨E9, ⟨np, nk, nd, nm⟩, ⟨s1, s2, s3⟩, e9⟩ := Z
            simp only at hz hdat
            subst hz
            obtain ⟨X1, hX1, _⟩ := txt_of np
            obtain ⟨X2, hX2, hX2d⟩ := txt_of nd
            unfold ndVal stampVal at CG
            simp only at CG
            rw [hX1, hX2] at CG
            have hcmp : (X2.toList == O.toList) = true ∨ ((X2.toList == O.toList) = false ∧ (X2.toList == V.toList) = true) := by
              rw [Lib.toList_data, Lib.toList_data, Lib.toList_data, hX2d]
              by_cases hq : nd = O.data.toList
              · exact .inl (by rw [hq]; simp)
              · refine .inr ⟨by simpa using hq, ?_⟩
                rcases hdat with h | h
                · exact absurd h hq
                · rw [h]; simp
            clear hb hX1 hX2 hX2d hdat
            rcases hcmp with hc1 | ⟨hc1, hc2⟩
            all_goals
              repeat (first | (go_at_call 28; fail) | go_skip | go_guarded | go_step | go_upon)
              refine CG.out.mono ?_
              rintro r w9 ⟨rfl, S9, h9, _, _⟩
              simp only []
              have HB9 := Lib.hid h9.bel
              clear h9
              repeat (first | go_skip | go_guarded | go_step | go_upon)
              go_ret
              exact ⟨rfl, ((((HB9.out.alloc HB9.out.size _).alloc (by simp; have := HB9.out.size; omega) _)))⟩
          · have hz3 : (eC == 0) = false := by simpa using z3
            obtain ⟨Dx, hDx⟩ : ∃ D, DC = D := ⟨_, rfl⟩
            have HOk := Lib.hid (H3q.out z3)
            rw [hDx] at HOk D7
            have HDx := D7
            clear z3 hDx
            have CB := Lib.hid HDx.out.boot0
            repeat (first | (go_at_call 17; fail) | go_skip | go_guarded | go_step | go_upon)
            refine CB.out.mono ?_
            rintro r wb ⟨rfl, Sb, hb, _, _⟩
            simp only []
            have CG := Lib.hid (hb.get HE.out (by omega) [102] (by show (1 : Nat) ≤ maxLen; unfold maxLen; omega))
            have HBb := Lib.hid hb.bel
            obtain ⟨hz, hdat⟩ := wh_get _ _ HOk.out
            obtain ⟨Z, hZ⟩ : ∃ Z, DP.getD (bootD Dx [] []) [102] = Z := ⟨_, rfl⟩
            rw [hZ] at CG hz hdat
            obtain ⟨E9, ⟨np, nk, nd, nm⟩, ⟨s1, s2, s3⟩, e9⟩ := Z
            simp only at hz hdat
            subst hz
            obtain ⟨X1, hX1, _⟩ := txt_of np
            obtain ⟨X2, hX2, hX2d⟩ := txt_of nd
            unfold ndVal stampVal at CG
            simp only at CG
            rw [hX1, hX2] at CG
            have hcmp : (X2.toList == O.toList) = true ∨ ((X2.toList == O.toList) = false ∧ (X2.toList == V.toList) = true) := by
              rw [Lib.toList_data, Lib.toList_data, Lib.toList_data, hX2d]
              by_cases hq : nd = O.data.toList
              · exact .inl (by rw [hq]; simp)
              · refine .inr ⟨by simpa using hq, ?_⟩
                rcases hdat with h | h
                · exact absurd h hq
                · rw [h]; simp
            clear hb hX1 hX2 hX2d hdat
            rcases hcmp with hc1 | ⟨hc1, hc2⟩
            all_goals
              repeat (first | (go_at_call 28; fail) | go_skip | go_guarded | go_step | go_upon)
              refine CG.out.mono ?_
              rintro r w9 ⟨rfl, S9, h9, _, _⟩
              simp only []
              have HB9 := Lib.hid h9.bel
              clear h9
              repeat (first | go_skip | go_guarded | go_step | go_upon)
              go_ret
              exact ⟨rfl, ((((HB9.out.alloc HB9.out.size _).alloc (by simp; have := HB9.out.size; omega) _)))⟩
        · have hz2 : (eB == 0) = false := by simpa using z2
          obtain ⟨Dx, hDx⟩ : ∃ D, DB = D := ⟨_, rfl⟩
          have HOk := Lib.hid (H2'.out z2)
          rw [hDx] at HOk D6
          have HDx := D6
          clear z2 hDx H3' H4'
          have CB := Lib.hid HDx.out.boot0
          repeat (first | (go_at_call 17; fail) | go_skip | go_guarded | go_step | go_upon)
          refine CB.out.mono ?_
          rintro r wb ⟨rfl, Sb, hb, _, _⟩
          simp only []
          have CG := Lib.hid (hb.get HE.out (by omega) [102] (by show (1 : Nat) ≤ maxLen; unfold maxLen; omega))
          have HBb := Lib.hid hb.bel
          obtain ⟨hz, hdat⟩ := wh_get _ _ HOk.out
          obtain ⟨Z, hZ⟩ : ∃ Z, DP.getD (bootD Dx [] []) [102] = Z := ⟨_, rfl⟩
          rw [hZ] at CG hz hdat
          obtain ⟨E9, ⟨np, nk, nd, nm⟩, ⟨s1, s2, s3⟩, e9⟩ := Z
          simp only at hz hdat
          subst hz
          obtain ⟨X1, hX1, _⟩ := txt_of np
          obtain ⟨X2, hX2, hX2d⟩ := txt_of nd
          unfold ndVal stampVal at CG
          simp only at CG
          rw [hX1, hX2] at CG
          have hcmp : (X2.toList == O.toList) = true ∨ ((X2.toList == O.toList) = false ∧ (X2.toList == V.toList) = true) := by
            rw [Lib.toList_data, Lib.toList_data, Lib.toList_data, hX2d]
            by_cases hq : nd = O.data.toList
            · exact .inl (by rw [hq]; simp)
            · refine .inr ⟨by simpa using hq, ?_⟩
              rcases hdat with h | h
              · exact absurd h hq
              · rw [h]; simp
          clear hb hX1 hX2 hX2d hdat
          rcases hcmp with hc1 | ⟨hc1, hc2⟩
          all_goals
            repeat (first | (go_at_call 28; fail) | go_skip | go_guarded | go_step | go_upon)
            refine CG.out.mono ?_
            rintro r w9 ⟨rfl, S9, h9, _, _⟩
            simp only []
            have HB9 := Lib.hid h9.bel
            clear h9
            repeat (first | go_skip | go_guarded | go_step | go_upon)
            go_ret
            exact ⟨rfl, ((((HB9.out.alloc HB9.out.size _).alloc (by simp; have := HB9.out.size; omega) _)))⟩
      · have hz1 : (eA == 0) = false := by simpa using z1
        obtain ⟨Dx, hDx⟩ : ∃ D, DA = D := ⟨_, rfl⟩
        have HOk := Lib.hid (H1.out z1)
        rw [hDx] at HOk D5
        have HDx := D5
        clear z1 hDx H2 H3 H4 H1
        have CB := Lib.hid HDx.out.boot0
        repeat (first | (go_at_call 17; fail) | go_skip | go_guarded | go_step | go_upon)
        refine CB.out.mono ?_
        rintro r wb ⟨rfl, Sb, hb, _, _⟩
        simp only []
        have CG := Lib.hid (hb.get HE.out (by omega) [102] (by show (1 : Nat) ≤ maxLen; unfold maxLen; omega))
        have HBb := Lib.hid hb.bel
        obtain ⟨hz, hdat⟩ := wh_get _ _ HOk.out
        obtain ⟨Z, hZ⟩ : ∃ Z, DP.getD (bootD Dx [] []) [102] = Z := ⟨_, rfl⟩
        rw [hZ] at CG hz hdat
        obtain ⟨E9, ⟨np, nk, nd, nm⟩, ⟨s1, s2, s3⟩, e9⟩ := Z
        simp only at hz hdat
        subst hz
        obtain ⟨X1, hX1, _⟩ := txt_of np
        obtain ⟨X2, hX2, hX2d⟩ := txt_of nd
        unfold ndVal stampVal at CG
        simp only at CG
        rw [hX1, hX2] at CG
        have hcmp : (X2.toList == O.toList) = true ∨ ((X2.toList == O.toList) = false ∧ (X2.toList == V.toList) = true) := by
          rw [Lib.toList_data, Lib.toList_data, Lib.toList_data, hX2d]
          by_cases hq : nd = O.data.toList
          · exact .inl (by rw [hq]; simp)
          · refine .inr ⟨by simpa using hq, ?_⟩
            rcases hdat with h | h
            · exact absurd h hq
            · rw [h]; simp
        clear hb hX1 hX2 hX2d hdat
        rcases hcmp with hc1 | ⟨hc1, hc2⟩
        all_goals
          repeat (first | (go_at_call 28; fail) | go_skip | go_guarded | go_step | go_upon)
          refine CG.out.mono ?_
          rintro r w9 ⟨rfl, S9, h9, _, _⟩
          simp only []
          have HB9 := Lib.hid h9.bel
          clear h9
          repeat (first | go_skip | go_guarded | go_step | go_upon)
          go_ret
          exact ⟨rfl, ((((HB9.out.alloc HB9.out.size _).alloc (by simp; have := HB9.out.size; omega) _)))⟩
    · have hVz : (65536 : Int) < (V.size : Int) := by omega
      clear hO hV
      repeat (first | go_skip | go_guarded | go_step | go_upon)
      go_ret
      exact ⟨rfl, B1.out⟩
  · have hOz : (65536 : Int) < (O.size : Int) := by omega
    clear hO
    repeat (first | go_skip | go_guarded | go_step | go_upon)
    go_ret
    exact ⟨rfl, B1.out⟩
end DG
end Go.Proofs.YtjkikkpbeceeeaaGreatDoor
end

section
/- Layer 7: the walk of DiskReads. -/
namespace Go.Proofs.YtjkikkpbeceeeaaGreatDoor
open Go.RowKit Go.Lib Go.BigFrame
namespace DG
open OM TP TM DP DM TG TR FP

/-- A list of nodes beside the disk, behind one more call. -/
theorem own_kept {S S' : Nat → Prop} {P : Nat} {W W' : World} {v : Value} {n size : Nat} {t : TypeId} {xs : List Value} (h : W.ownsRow 0 t size v n xs) (hf : ∀ g, v.ownBlock = some g → ¬ S g ∧ g ≠ P) (hs : ∀ k, S' k → S k ∨ W.heap.size ≤ k) (ho : Out (fun k => S k ∨ k = P) W W') :
    W'.ownsRow 0 t size v n xs ∧ ∀ g, v.ownBlock = some g → ¬ S' g ∧ g ≠ P := by
  refine ⟨ho.owns h (fun g hg hh => ?_), fun g hg => ⟨fun hh => ?_, (hf g hg).2⟩⟩
  · obtain ⟨h2, h3⟩ := hf g hg
    rcases hh with hh | hh
    · exact h2 hh
    · exact h3 hh
  · rcases hs g hh with h4 | h4
    · exact (hf g hg).1 h4
    · have := (h.lt g hg).2
      omega
theorem blk_kept {S S' : Nat → Prop} {P b : Nat} {W W' : World} {o : Obj} (h : W.heap[b]? = some o) (hf : ¬ S b ∧ b ≠ P) (hs : ∀ k, S' k → S k ∨ W.heap.size ≤ k) (ho : Out (fun k => S k ∨ k = P) W W') : W'.heap[b]? = some o ∧ (¬ S' b ∧ b ≠ P) := by
  have hb := (Array.getElem?_eq_some_iff.1 h).1
  refine ⟨ho.row h (fun hh => hh.elim hf.1 hf.2), fun hh => ?_, hf.2⟩
  rcases hs b hh with h4 | h4
  · exact hf.1 h4
  · omega
theorem eq_stv (a b c : Int) (W : World) : (Op.equalIn 10000 47 (.agg #[.int .i64 a, .int .i64 b, .int .i64 c]) (.agg #[.int .i64 a, .int .i64 b, .int .i64 c])).run Tryz.prog W = .ok true W := by
  rw [run_equalIn_struct W 9999 47 _ _ (by kernel_rfl) (by kernel_rfl)]
  have names : (Tryz.prog.fieldsOf 47).toList.map (fun f => (f.name, f.type, f.offset)) = [("Ino", 3, 0), ("Size", 3, 1), ("Time", 3, 2)] := by kernel_rfl
  obtain ⟨f0, f1, f2, e⟩ : ∃ f0 f1 f2, (Tryz.prog.fieldsOf 47).toList = [f0, f1, f2] := by
    have hl := congrArg List.length names
    rw [List.length_map] at hl
    match h : (Tryz.prog.fieldsOf 47).toList, hl with
    | [f0, f1, f2], _ => exact ⟨f0, f1, f2, rfl⟩
  rw [e] at names
  simp only [List.map_cons, List.map_nil, List.cons.injEq, Prod.mk.injEq, and_true] at names
  obtain ⟨⟨n0, t0, o0⟩, ⟨n1, t1, o1⟩, n2, t2, o2⟩ := names
  rw [e]
  simp [Op.eqFields, go_sem, n0, n1, n2, t0, t1, t2, o0, o1, o2, Tryz.underlying3]
/- lists of texts -/
def LayT (W : World) (ao : Option Addr) (ls : List (List UInt8)) : Prop :=
  0 < ls.length → ∃ g o, ao = some ⟨g, o, none⟩ ∧ g < W.heap.size ∧ ∀ (k : Nat) (t : List UInt8), ls[k]? = some t → W.cell? ⟨g, o + k, none⟩ = some (txt t)
theorem LayT.below {W W' : World} {ao : Option Addr} {ls : List (List UInt8)} (h : LayT W ao ls) (hb : Below W.heap.size W W') : LayT W' ao ls := fun h0 => by
  obtain ⟨g, o, e, hlt, hc⟩ := h h0
  exact ⟨g, o, e, Nat.lt_of_lt_of_le hlt hb.size, fun k t hk => (hb.cell (p := ⟨g, o + k, none⟩) hlt).trans (hc k t hk)⟩
theorem layT_of {w : World} {B : Nat} {v : Value} {ls : List (List UInt8)} (h : w.ownsRow B 9 1 v ls.length (ls.map txt)) : ∃ ao c, v = .slice ao ls.length c ∧ LayT w ao ls := by
  obtain ⟨ao, c, rfl, hx⟩ := owns_view h
  refine ⟨ao, c, rfl, fun h0 => ?_⟩
  obtain ⟨g, rfl, hg, _, hc⟩ := hx h0
  refine ⟨g, 0, rfl, hg, fun k t hk => ?_⟩
  have hkl := (List.getElem?_eq_some_iff.1 hk).1
  rw [Nat.zero_add, hc k (by omega), List.getElem?_map, hk]
  rfl
set_option maxRecDepth 100000 in
set_option maxHeartbeats 1600000 in
theorem texts_eq (a1 a2 : Option Addr) (c1 c2 : Nat) (ls : List (List UInt8)) (w : World) (h1 : LayT w a1 ls) (h2 : LayT w a2 ls) (hle : ls.length ≤ maxLen) :
    Calls Tryz.prog 21 #[.slice a1 ls.length c1, .slice a2 ls.length c2] w fun e w' => e = .returned (.bool true) ∧ Below w.heap.size w w' := by
  obtain ⟨n, hn⟩ : ∃ n, ls.length = n := ⟨_, rfl⟩
  have HN := Lib.hid hn
  have H1 := Lib.hid h1
  have H2 := Lib.hid h2
  unfold maxLen at hle
  rw [hn] at hle ⊢
  clear h1 h2 hn
  go_enter Tryz.func21, Tryz.ntmps21
  repeat (first | go_skip | go_guarded | go_step | go_upon)
  go_loopw [5] (fun s3 wr => ∃ k : Nat, s3 = .int .i64 k ∧ k ≤ n ∧ Below w.heap.size w wr) (fun s3 _ => n - (Go.RowKit.intOf s3).toNat)
  case atStart => exact ⟨0, rfl, Nat.zero_le _, Below.refl _ _⟩
  case round =>
    obtain ⟨k, rfl, hk, hb⟩ := hrel
    have HB := Lib.hid hb
    have HL1 := Lib.hid (H1.out.below hb)
    have HL2 := Lib.hid (H2.out.below hb)
    clear hb
    by_cases hlt : k < n
    · have hkz : (k : Int) < n := by omega
      obtain ⟨g1, o1, rfl, _, hc1⟩ := HL1.out (by rw [HN.out]; omega)
      obtain ⟨g2, o2, rfl, _, hc2⟩ := HL2.out (by rw [HN.out]; omega)
      obtain ⟨x, hx⟩ : ∃ x, ls[k]? = some x := ⟨ls[k]'(by rw [HN.out]; exact hlt), List.getElem?_eq_getElem _⟩
      have d1 := hc1 k x hx
      have d2 := hc2 k x hx
      unfold txt at d1 d2
      obtain ⟨T, hT⟩ : ∃ T : ByteArray, ⟨x.toArray⟩ = T := ⟨_, rfl⟩
      rw [hT] at d1 d2
      have hTT : (T.toList == T.toList) = true := by simp
      clear hc1 hc2 hx hT hlt
      repeat (first | go_skip | go_guarded | go_step | go_upon)
      go_quiet (fail)
      rename_i nq
      have HB3 : Hid (Below w.heap.size w (wr.drewN nq)) := Lib.hid ⟨HB.out.os, HB.out.tape, HB.out.output, HB.out.size, HB.out.block⟩
      generalize wr.drewN nq = w3 at HB3 ⊢
      repeat (first | go_skip | go_guarded | go_step | go_upon)
      exact ⟨⟨k + 1, by go_num, by omega, HB3.out⟩, by simp [Go.RowKit.intOf]; omega⟩
    · have hkz : ¬ (k : Int) < n := by omega
      clear hlt
      repeat (first | go_skip | go_guarded | go_step | go_upon)
      go_ret
      exact ⟨rfl, HB.out⟩
/- to ask changes nothing -/
def gotA (D : Dk) (p : List UInt8) : Nd × Stamp × Int := if missE D p = 0 then (gotN D p, gotS D p, 0) else (nodeZ, stampZ, missE D p)
def namA (D : Dk) (p : List UInt8) : Int := firstE [missE D p, whenE (!decide (kindD D p = 2)) 73]
def namL (D : Dk) (p : List UInt8) : List (List UInt8) := if namA D p = 0 then lastsL D.names p else []
theorem Calm.got {D : Dk} (h : Calm D) (p : List UInt8) : DP.getD D p = (DG.tick D ⟨cGet, p, []⟩, gotA D p) := by
  unfold DP.getD
  rw [h.after]
  unfold DP.refuse gotA
  rw [show missE (DG.tick D ⟨cGet, p, []⟩) p = missE D p from rfl]
  by_cases h0 : missE D p = 0
  · rw [if_pos h0, if_pos h0]
    rfl
  · rw [if_neg h0, if_neg h0]
    simp only
    rw [if_neg h0]
theorem Calm.named {D : Dk} (h : Calm D) (p : List UInt8) : namesR D p = (DG.tick D ⟨cNames, p, []⟩, namA D p) := by
  unfold namesR
  rw [h.after]
  unfold DP.refuse
  show (if namA D p = 0 then (DG.tick D ⟨cNames, p, []⟩, (0 : Int)) else (DG.tick D ⟨cNames, p, []⟩, namA D p)) = _
  by_cases h0 : namA D p = 0
  · rw [if_pos h0, h0]
  · rw [if_neg h0]
theorem Calm.lasts {D : Dk} (h : Calm D) (p : List UInt8) : lastsR (namesR D p) p = namL D p := by
  rw [h.named]
  rfl
theorem namL_len {D : Dk} (h : D.names.length ≤ 1000) (p : List UInt8) : (namL D p).length ≤ 1000 := by
  unfold namL
  split
  · unfold lastsL inE
    refine Nat.le_trans (List.length_filter_le _ _) ?_
    rw [List.length_map]
    exact Nat.le_trans (List.length_filter_le _ _) h
  · simp
set_option maxRecDepth 100000 in
set_option maxHeartbeats 12800000 in
theorem reads_any (a0 a1 : Option Addr) (c0 c1 : Nat) (t : List Nd) (cs : List Cal) (w : World) (he : NF.Env w) (hw : TW.Wide w a0 c0 t) (hc : LayC w a1 cs) (hlc : LongC cs) (hcap : cs.length ≤ c1) (hmax : cs.length ≤ maxLen) :
    Calls Tryz.prog 6 #[.slice a0 t.length c0, .slice a1 cs.length c1] w fun r w' => r = .returned (.bool true) ∧ Below w.heap.size w w' := by
  have HE := Lib.hid he
  have HW := Lib.hid hw
  have HC := Lib.hid hc
  have HL := Lib.hid hlc
  have CA := Lib.hid (awake_any w he)
  obtain ⟨n, hn⟩ : ∃ n, t.length = n := ⟨_, rfl⟩
  obtain ⟨m, hm⟩ : ∃ m, cs.length = m := ⟨_, rfl⟩
  have HN := Lib.hid hn
  have HM := Lib.hid hm
  unfold maxLen at hmax
  rw [hn, hm]
  rw [hm] at hcap hmax
  have hmz : (m : Int) ≤ 9223372036854775807 := by omega
  clear he hw hc hlc hn hm
  go_enter Tryz.func6, Tryz.ntmps6
  repeat (first | (go_at_call 9; fail) | go_skip | go_guarded | go_step | go_upon)
  refine CA.out.mono ?_
  rintro r w1 ⟨rfl, hb1⟩
  simp only []
  have B1 := Lib.hid hb1
  clear hb1
  by_cases ht : treeB t = true
  · have CN : Hid (Calls Tryz.prog 10 #[.slice a0 n c0] w1 fun r w' => ∃ S P, r = .returned (.tuple #[.pointer (some ⟨P, 0, none⟩), .int .i64 0]) ∧ DS w1 w' S P 0 (newD t)) := Lib.hid (by
      have := new_ds (HE.out.below B1.out) (HW.out.below B1.out) ht
      rw [HN.out] at this
      exact this)
    have HTr := Lib.hid ht
    clear ht
    repeat (first | (go_at_call 10; fail) | go_skip | go_guarded | go_step | go_upon)
    refine CN.out.mono ?_
    rintro r w2 ⟨S, P, rfl, h2⟩
    simp only []
    have D2 := Lib.hid h2
    have HCalm0 : Hid (Calm (newD t)) := Lib.hid (calm_new ((tree_iff t).1 HTr.out))
    have HE1 := Lib.hid (HE.out.below B1.out)
    clear h2
    repeat (first | go_skip | go_guarded | go_step | go_upon)
    go_loopw [33] (fun s33 wr => ∃ (k : Nat) (S' : Nat → Prop) (DQ : Dk), s33 = .int .i64 k ∧ k ≤ m ∧ k ≤ 60 ∧ DS w1 wr S' P (5 * k) DQ ∧ Calm DQ) (fun s33 _ => m - (Go.RowKit.intOf s33).toNat)
    case atStart => exact ⟨0, S, _, rfl, Nat.zero_le _, Nat.zero_le _, D2.out, HCalm0.out⟩
    case round =>
      obtain ⟨k, SQ, DQ, rfl, hk, hk60, hd, hcalm⟩ := hrel
      have Dr := Lib.hid hd
      have HCalm := Lib.hid hcalm
      by_cases hlt : k < m
      · have hkz : (k : Int) < m := by omega
        obtain ⟨g, o, rfl, hg, hcell⟩ := HC.out (by rw [HM.out]; omega)
        obtain ⟨c, hcx⟩ : ∃ c, cs[k]? = some c := ⟨cs[k]'(by rw [HM.out]; exact hlt), List.getElem?_eq_getElem _⟩
        have HLp := Lib.hid (HL.out c (List.mem_of_getElem? hcx))
        obtain ⟨e0, e1, e2, e3, e4⟩ := hcell k c hcx
        have hgr1 : g < w1.heap.size := Nat.lt_of_lt_of_le hg B1.out.size
        have sC : ∀ j, wr.cell? ⟨g, j, none⟩ = w.cell? ⟨g, j, none⟩ := fun j => (hd.bel.cell (p := ⟨g, j, none⟩) hgr1).trans (B1.out.cell (p := ⟨g, j, none⟩) hg)
        rw [← sC] at e0 e1 e2 e3 e4
        have hgr : g < wr.heap.size := Nat.lt_of_lt_of_le hgr1 hd.bel.size
        obtain ⟨X, hX, _⟩ := txt_of c.path
        obtain ⟨Y, hY, _⟩ := txt_of c.dest
        obtain ⟨V, hV, _⟩ := txt_of c.data
        obtain ⟨wh, hwh⟩ : ∃ z, c.what = z := ⟨_, rfl⟩
        obtain ⟨md, hmd⟩ : ∃ z, c.mode = z := ⟨_, rfl⟩
        rw [hX] at e1
        rw [hY] at e2
        rw [hV] at e3
        rw [hwh] at e0
        rw [hmd] at e4
        have CK : Hid (Calls Tryz.prog 19 #[.pointer (some ⟨P, 0, none⟩), .agg #[.int .i64 wh, .string X, .string Y, .string V, .int .i64 md]] (wr.alloc (.cells #[.int .i64 wh, .string X, .string Y, .string V, .int .i64 md] 43)) fun r W' => ∃ (u : Value) (S2 : Nat → Prop), r = .returned u ∧ DS w1 W' S2 P (5 * k + 1) (askD DQ c).1 ∧ (W'.heap[wr.heap.size]? = some (.cells #[.int .i64 wh, .string X, .string Y, .string V, .int .i64 md] 43 (0, 0)) ∧ (¬ S2 wr.heap.size ∧ wr.heap.size ≠ P))) := Lib.hid (by
          have hda : DS w1 (wr.alloc (.cells #[.int .i64 wh, .string X, .string Y, .string V, .int .i64 md] 43)) SQ P (5 * k) DQ := hd.below ((Below.refl _ _).alloc (Nat.le_refl _) _)
          have := ask_any hda HE1.out (by omega) c HLp.out.1 HLp.out.2
          unfold calV at this
          rw [hwh, hX, hY, hV, hmd] at this
          refine this.mono ?_
          rintro r W' ⟨v, rfl, ho, S2, h2, hs2, ho2, _⟩
          refine ⟨_, S2, rfl, h2, blk_kept (S := SQ) (heap_alloc_new wr _) ?_ hs2 ho2⟩
          obtain ⟨hl1, hl2⟩ := hd.lt
          exact ⟨fun hh => by have := hl2 _ hh; omega, by omega⟩)
        have HX := Lib.hid hX
        have HCn : Hid (Calm (askD DQ c).1) := Lib.hid (by
          obtain ⟨adr, x, hx⟩ := hd.disk
          exact hcalm.ask hx.fit c)
        clear hcell hcx sC hX hY hV hwh hmd
        by_cases h60 : k = 60
        · have hk4 : ((k : Int) == 60) = true := by simp [h60]
          have HDx : Hid (DS w1 (wr.alloc (.cells #[.int .i64 wh, .string X, .string Y, .string V, .int .i64 md] 43)) SQ P (5 * k) DQ) := Lib.hid (Dr.out.below ((Below.refl _ _).alloc (Nat.le_refl _) _))
          clear h60 hd hcalm CK HCn
          repeat (first | go_skip | go_guarded | go_step | go_upon)
          go_ret
          exact ⟨rfl, Below.trans B1.out (HDx.out.bel.mono B1.out.size)⟩
        · have hk4 : ((k : Int) == 60) = false := by simp; omega
          have hk59 : k < 60 := by omega
          clear hd hcalm h60
          repeat (first | (go_at_call 19; fail) | go_skip | go_guarded | go_step | go_upon)
          refine CK.out.mono ?_
          rintro r w3 ⟨u, S2, rfl, h2, hbx⟩
          simp only []
          obtain ⟨DQ2, hDQ2⟩ : ∃ z, (askD DQ c).1 = z := ⟨_, rfl⟩
          rw [hDQ2] at h2 HCn
          have H2 := Lib.hid h2
          have BX3 := Lib.hid hbx
          clear h2 hbx hDQ2
          have CTr := Lib.hid H2.out.tree
          repeat (first | (go_at_call 15; fail) | go_skip | go_guarded | go_step | go_upon)
          refine CTr.out.mono ?_
          rintro r w5 ⟨v5, rfl, ho5, hb5⟩
          simp only []
          obtain ⟨a5, c5, hv5, _⟩ := lay_own ho5
          obtain ⟨T0, hT0⟩ : ∃ z, treeD DQ2 = z := ⟨_, rfl⟩
          have HT0 := Lib.hid hT0
          rw [hT0] at ho5 hv5
          obtain ⟨q, hq⟩ : ∃ z, T0.length = z := ⟨_, rfl⟩
          have HQ := Lib.hid hq
          rw [hq] at hv5
          have hdl : DQ2.names.length ≤ 1000 := by
            obtain ⟨adr, x, hx⟩ := H2.out.disk
            exact hx.fit.names.len
          have hq1 : q ≤ 1000 := by
            have : T0.length = DQ2.names.length := by rw [← hT0]; unfold treeD; rw [List.length_map]
            omega
          have D5 := Lib.hid (H2.out.below hb5)
          have K5 : Hid (w5.ownsRow 0 45 4 v5 q (nodesC T0) ∧ ∀ g, v5.ownBlock = some g → ¬ S2 g ∧ g ≠ P) := Lib.hid ⟨by rw [← hq]; exact owns_base ho5 0 (Nat.zero_le _), fun g hg => by
            have h1 := (ho5.lt g hg).1
            obtain ⟨h2, h3⟩ := H2.out.lt
            exact ⟨fun hh => by have := h3 g hh; omega, by omega⟩⟩
          have BX5 : Hid (w5.heap[wr.heap.size]? = some (.cells #[.int .i64 wh, .string X, .string Y, .string V, .int .i64 md] 43 (0, 0)) ∧ (¬ S2 wr.heap.size ∧ wr.heap.size ≠ P)) := Lib.hid ⟨(hb5.block _ (Array.getElem?_eq_some_iff.1 BX3.out.1).1).trans BX3.out.1, BX3.out.2⟩
          subst hv5
          obtain ⟨x0, x1, x2, x3, x4, xf⟩ := row5c BX5.out.1
          clear ho5 hb5 hT0 hq
          obtain ⟨Zg, hZg⟩ : ∃ z, gotA DQ2 c.path = z := ⟨_, rfl⟩
          have HZg := Lib.hid hZg
          obtain ⟨⟨gp, gk, gd, gm⟩, ⟨st1, st2, st3⟩, ge⟩ := Zg
          obtain ⟨G1, hG1, _⟩ := txt_of gp
          obtain ⟨G2, hG2, _⟩ := txt_of gd
          have HG1 := Lib.hid hG1
          have HG2 := Lib.hid hG2
          have q1 : ∀ W : World, (Op.equalIn 10000 45 (.agg #[.string G1, .int .i64 gk, .string G2, .int .i64 gm]) (.agg #[.string G1, .int .i64 gk, .string G2, .int .i64 gm])).run Tryz.prog W = .ok true W := fun W => by
            have := TR.eq_nd ⟨gp, gk, gd, gm⟩ ⟨gp, gk, gd, gm⟩ W
            rw [decide_eq_true rfl] at this
            unfold ndVal at this
            simp only at this
            rw [hG1, hG2] at this
            exact this
          have q2 := eq_stv st1 st2 st3
          obtain ⟨ne, hne⟩ : ∃ z, namA DQ2 c.path = z := ⟨_, rfl⟩
          obtain ⟨ll, hll⟩ : ∃ z, namL DQ2 c.path = z := ⟨_, rfl⟩
          have HNe := Lib.hid hne
          have HLl := Lib.hid hll
          have hlln : ll.length ≤ 1000 := by rw [← hll]; exact namL_len hdl c.path
          obtain ⟨nl, hnl⟩ : ∃ z, ll.length = z := ⟨_, rfl⟩
          have HNl := Lib.hid hnl
          rw [hnl] at hlln
          clear hZg hG1 hG2 hne hll hnl hdl
          have CG1 : Hid (Calls Tryz.prog 28 #[.pointer (some ⟨P, 0, none⟩), .string X] w5 fun r W' => r = .returned (.tuple #[.agg #[.string G1, .int .i64 gk, .string G2, .int .i64 gm], .agg #[.int .i64 st1, .int .i64 st2, .int .i64 st3], .int .i64 ge]) ∧ Aft w1 w5 S2 P (5 * k + 1 + 1) (tick DQ2 ⟨cGet, c.path, []⟩) W') := Lib.hid (by
            have := D5.out.get HE1.out (by omega) c.path HLp.out.1
            rw [HCn.out.got, HZg.out] at this
            unfold ndVal stampVal at this
            simp only at this
            rw [HG1.out, HG2.out, HX.out] at this
            exact this)
          repeat (first | (go_at_call 28; fail) | go_skip | go_guarded | go_step | go_upon)
          refine CG1.out.mono ?_
          rintro r w6 ⟨rfl, S6, h6, hs6, ho6⟩
          simp only []
          have K6 : Hid (w6.ownsRow 0 45 4 (.slice a5 q c5) q (nodesC T0) ∧ ∀ g, (Value.slice a5 q c5).ownBlock = some g → ¬ S6 g ∧ g ≠ P) := Lib.hid (own_kept K5.out.1 K5.out.2 hs6 ho6)
          have BX6 := Lib.hid (blk_kept BX5.out.1 BX5.out.2 hs6 ho6)
          have rA := heap_alloc_new w6 (.cells #[.string G1, .int .i64 gk, .string G2, .int .i64 gm] 45)
          have rB := heap_alloc_new (w6.alloc (.cells #[.string G1, .int .i64 gk, .string G2, .int .i64 gm] 45)) (.cells #[.int .i64 st1, .int .i64 st2, .int .i64 st3] 47)
          have bA : Below w6.heap.size w6 ((w6.alloc (.cells #[.string G1, .int .i64 gk, .string G2, .int .i64 gm] 45)).alloc (.cells #[.int .i64 st1, .int .i64 st2, .int .i64 st3] 47)) := ((Below.refl _ _).alloc (Nat.le_refl _) _).alloc (by simp) _
          have bA2 : Below (w6.heap.size + 1) (w6.alloc (.cells #[.string G1, .int .i64 gk, .string G2, .int .i64 gm] 45)) ((w6.alloc (.cells #[.string G1, .int .i64 gk, .string G2, .int .i64 gm] 45)).alloc (.cells #[.int .i64 st1, .int .i64 st2, .int .i64 st3] 47)) := (Below.refl _ _).alloc (by simp) _
          have RA : Hid (((w6.alloc (.cells #[.string G1, .int .i64 gk, .string G2, .int .i64 gm] 45)).alloc (.cells #[.int .i64 st1, .int .i64 st2, .int .i64 st3] 47)).heap[w6.heap.size]? = some (.cells #[.string G1, .int .i64 gk, .string G2, .int .i64 gm] 45 (0, 0)) ∧ ((w6.alloc (.cells #[.string G1, .int .i64 gk, .string G2, .int .i64 gm] 45)).alloc (.cells #[.int .i64 st1, .int .i64 st2, .int .i64 st3] 47)).heap[w6.heap.size + 1]? = some (.cells #[.int .i64 st1, .int .i64 st2, .int .i64 st3] 47 (0, 0))) := Lib.hid ⟨(bA2.block _ (by omega)).trans rA, by rw [World.size_alloc] at rB; exact rB⟩
          have F6 : Hid ((¬ S6 w6.heap.size ∧ w6.heap.size ≠ P) ∧ (¬ S6 (w6.heap.size + 1) ∧ w6.heap.size + 1 ≠ P)) := Lib.hid (by
            obtain ⟨h2, h3⟩ := h6.lt
            exact ⟨⟨fun hh => by have := h3 _ hh; omega, by omega⟩, ⟨fun hh => by have := h3 _ hh; omega, by omega⟩⟩)
          obtain ⟨W7, hW7⟩ : ∃ z, ((w6.alloc (.cells #[.string G1, .int .i64 gk, .string G2, .int .i64 gm] 45)).alloc (.cells #[.int .i64 st1, .int .i64 st2, .int .i64 st3] 47)) = z := ⟨_, rfl⟩
          have H7 : Hid (DS w1 W7 S6 P (5 * k + 1 + 1) (tick DQ2 ⟨cGet, c.path, []⟩)) := Lib.hid (hW7 ▸ h6.below bA)
          rw [hW7] at RA bA
          have K7 : Hid (W7.ownsRow 0 45 4 (.slice a5 q c5) q (nodesC T0)) := Lib.hid (owns_below K6.out.1 bA)
          have BX7 : Hid (W7.heap[wr.heap.size]? = some (.cells #[.int .i64 wh, .string X, .string Y, .string V, .int .i64 md] 43 (0, 0))) := Lib.hid ((bA.block _ (Array.getElem?_eq_some_iff.1 BX6.out.1).1).trans BX6.out.1)
          have CN1 : Hid (Calls Tryz.prog 30 #[.pointer (some ⟨P, 0, none⟩), .string X] W7 fun r W' => ∃ v, r = .returned (.tuple #[v, .int .i64 ne]) ∧ W'.ownsRow W7.heap.size 9 1 v ll.length (ll.map txt) ∧ AftN w1 W7 S6 P (5 * k + 1 + 1 + 1) (tick (tick DQ2 ⟨cGet, c.path, []⟩) ⟨cNames, c.path, []⟩) v W') := Lib.hid (by
            have := H7.out.names HE1.out (by omega) c.path HLp.out.1
            rw [(HCn.out.tick _).lasts, (HCn.out.tick _).named] at this
            rw [show namL (tick DQ2 ⟨cGet, c.path, []⟩) c.path = ll from HLl.out, show namA (tick DQ2 ⟨cGet, c.path, []⟩) c.path = ne from HNe.out, HX.out] at this
            exact this)
          have bx6 : wr.heap.size < w6.heap.size := (Array.getElem?_eq_some_iff.1 BX6.out.1).1
          obtain ⟨y0, y1, y2, y3, y4, yf⟩ := row5c BX6.out.1
          have hW7h := Lib.hid hW7
          clear h6 hs6 ho6 rA rB bA bA2 x0 x1 x2 x3 x4 xf hW7
          rw [← hW7h.out] at CN1
          repeat (first | (go_at_call 30; fail) | go_skip | go_guarded | go_step | go_upon)
          rw [hW7h.out] at CN1 ⊢
          refine CN1.out.mono ?_
          rintro r w8 ⟨vl, rfl, hol, S8, h8, hs8, ho8, hf8⟩
          simp only []
          have KL8 : Hid (w8.ownsRow 0 9 1 vl ll.length (ll.map txt) ∧ ∀ g, vl.ownBlock = some g → ¬ S8 g ∧ g ≠ P) := Lib.hid ⟨owns_base hol 0 (Nat.zero_le _), hf8⟩
          obtain ⟨al, cl, hvl, _⟩ := owns_view hol
          rw [HNl.out] at hvl
          have K8 : Hid (w8.ownsRow 0 45 4 (.slice a5 q c5) q (nodesC T0) ∧ ∀ g, (Value.slice a5 q c5).ownBlock = some g → ¬ S8 g ∧ g ≠ P) := Lib.hid (own_kept K7.out K6.out.2 hs8 ho8)
          have BX8 := Lib.hid (blk_kept BX7.out BX6.out.2 hs8 ho8)
          have RA8 := Lib.hid (blk_kept RA.out.1 F6.out.1 hs8 ho8)
          have RB8 := Lib.hid (blk_kept RA.out.2 F6.out.2 hs8 ho8)
          have H8 := Lib.hid h8
          subst hvl
          obtain ⟨x0, x1, x2, x3, x4, xf⟩ := row5c BX8.out.1
          have CG2 : Hid (Calls Tryz.prog 28 #[.pointer (some ⟨P, 0, none⟩), .string X] w8 fun r W' => r = .returned (.tuple #[.agg #[.string G1, .int .i64 gk, .string G2, .int .i64 gm], .agg #[.int .i64 st1, .int .i64 st2, .int .i64 st3], .int .i64 ge]) ∧ Aft w1 w8 S8 P (5 * k + 1 + 1 + 1 + 1) (tick (tick (tick DQ2 ⟨cGet, c.path, []⟩) ⟨cNames, c.path, []⟩) ⟨cGet, c.path, []⟩) W') := Lib.hid (by
            have := h8.get HE1.out (by omega) c.path HLp.out.1
            rw [((HCn.out.tick _).tick _).got, show gotA (tick (tick DQ2 ⟨cGet, c.path, []⟩) ⟨cNames, c.path, []⟩) c.path = _ from HZg.out] at this
            unfold ndVal stampVal at this
            simp only at this
            rw [HG1.out, HG2.out, HX.out] at this
            exact this)
          clear h8 hs8 ho8 hf8 hol y0 y1 y2 y3 y4 yf
          repeat (first | (go_at_call 28; fail) | go_skip | go_guarded | go_step | go_upon)
          refine CG2.out.mono ?_
          rintro r w9 ⟨rfl, S9, h9, hs9, ho9⟩
          simp only []
          have K9 : Hid (w9.ownsRow 0 45 4 (.slice a5 q c5) q (nodesC T0) ∧ ∀ g, (Value.slice a5 q c5).ownBlock = some g → ¬ S9 g ∧ g ≠ P) := Lib.hid (own_kept K8.out.1 K8.out.2 hs9 ho9)
          have KL9 : Hid (w9.ownsRow 0 9 1 (.slice al nl cl) ll.length (ll.map txt) ∧ ∀ g, (Value.slice al nl cl).ownBlock = some g → ¬ S9 g ∧ g ≠ P) := Lib.hid (own_kept KL8.out.1 KL8.out.2 hs9 ho9)
          have BX9 := Lib.hid (blk_kept BX8.out.1 BX8.out.2 hs9 ho9)
          have RA9 := Lib.hid (blk_kept RA8.out.1 RA8.out.2 hs9 ho9)
          have RB9 := Lib.hid (blk_kept RB8.out.1 RB8.out.2 hs9 ho9)
          have rA := heap_alloc_new w9 (.cells #[.string G1, .int .i64 gk, .string G2, .int .i64 gm] 45)
          have rB := heap_alloc_new (w9.alloc (.cells #[.string G1, .int .i64 gk, .string G2, .int .i64 gm] 45)) (.cells #[.int .i64 st1, .int .i64 st2, .int .i64 st3] 47)
          have bA : Below w9.heap.size w9 ((w9.alloc (.cells #[.string G1, .int .i64 gk, .string G2, .int .i64 gm] 45)).alloc (.cells #[.int .i64 st1, .int .i64 st2, .int .i64 st3] 47)) := ((Below.refl _ _).alloc (Nat.le_refl _) _).alloc (by simp) _
          have bA2 : Below (w9.heap.size + 1) (w9.alloc (.cells #[.string G1, .int .i64 gk, .string G2, .int .i64 gm] 45)) ((w9.alloc (.cells #[.string G1, .int .i64 gk, .string G2, .int .i64 gm] 45)).alloc (.cells #[.int .i64 st1, .int .i64 st2, .int .i64 st3] 47)) := (Below.refl _ _).alloc (by simp) _
          have RC : Hid (((w9.alloc (.cells #[.string G1, .int .i64 gk, .string G2, .int .i64 gm] 45)).alloc (.cells #[.int .i64 st1, .int .i64 st2, .int .i64 st3] 47)).heap[w9.heap.size]? = some (.cells #[.string G1, .int .i64 gk, .string G2, .int .i64 gm] 45 (0, 0)) ∧ ((w9.alloc (.cells #[.string G1, .int .i64 gk, .string G2, .int .i64 gm] 45)).alloc (.cells #[.int .i64 st1, .int .i64 st2, .int .i64 st3] 47)).heap[w9.heap.size + 1]? = some (.cells #[.int .i64 st1, .int .i64 st2, .int .i64 st3] 47 (0, 0))) := Lib.hid ⟨(bA2.block _ (by omega)).trans rA, by rw [World.size_alloc] at rB; exact rB⟩
          have F9 : Hid ((¬ S9 w9.heap.size ∧ w9.heap.size ≠ P) ∧ (¬ S9 (w9.heap.size + 1) ∧ w9.heap.size + 1 ≠ P)) := Lib.hid (by
            obtain ⟨h2, h3⟩ := h9.lt
            exact ⟨⟨fun hh => by have := h3 _ hh; omega, by omega⟩, ⟨fun hh => by have := h3 _ hh; omega, by omega⟩⟩)
          obtain ⟨WA, hWA⟩ : ∃ z, ((w9.alloc (.cells #[.string G1, .int .i64 gk, .string G2, .int .i64 gm] 45)).alloc (.cells #[.int .i64 st1, .int .i64 st2, .int .i64 st3] 47)) = z := ⟨_, rfl⟩
          have HA : Hid (DS w1 WA S9 P (5 * k + 1 + 1 + 1 + 1) (tick (tick (tick DQ2 ⟨cGet, c.path, []⟩) ⟨cNames, c.path, []⟩) ⟨cGet, c.path, []⟩)) := Lib.hid (hWA ▸ h9.below bA)
          rw [hWA] at RC bA
          have KA : Hid (WA.ownsRow 0 45 4 (.slice a5 q c5) q (nodesC T0)) := Lib.hid (owns_below K9.out.1 bA)
          have KLA : Hid (WA.ownsRow 0 9 1 (.slice al nl cl) ll.length (ll.map txt)) := Lib.hid (owns_below KL9.out.1 bA)
          have RAA : Hid (WA.heap[w6.heap.size]? = some (.cells #[.string G1, .int .i64 gk, .string G2, .int .i64 gm] 45 (0, 0))) := Lib.hid ((bA.block _ (Array.getElem?_eq_some_iff.1 RA9.out.1).1).trans RA9.out.1)
          have RBA : Hid (WA.heap[w6.heap.size + 1]? = some (.cells #[.int .i64 st1, .int .i64 st2, .int .i64 st3] 47 (0, 0))) := Lib.hid ((bA.block _ (Array.getElem?_eq_some_iff.1 RB9.out.1).1).trans RB9.out.1)
          have CN2 : Hid (Calls Tryz.prog 30 #[.pointer (some ⟨P, 0, none⟩), .string X] WA fun r W' => ∃ v, r = .returned (.tuple #[v, .int .i64 ne]) ∧ W'.ownsRow WA.heap.size 9 1 v ll.length (ll.map txt) ∧ AftN w1 WA S9 P (5 * k + 1 + 1 + 1 + 1 + 1) (tick (tick (tick (tick DQ2 ⟨cGet, c.path, []⟩) ⟨cNames, c.path, []⟩) ⟨cGet, c.path, []⟩) ⟨cNames, c.path, []⟩) v W') := Lib.hid (by
            have := HA.out.names HE1.out (by omega) c.path HLp.out.1
            rw [(((HCn.out.tick _).tick _).tick _).lasts, (((HCn.out.tick _).tick _).tick _).named] at this
            rw [show namL (tick (tick (tick DQ2 ⟨cGet, c.path, []⟩) ⟨cNames, c.path, []⟩) ⟨cGet, c.path, []⟩) c.path = ll from HLl.out, show namA (tick (tick (tick DQ2 ⟨cGet, c.path, []⟩) ⟨cNames, c.path, []⟩) ⟨cGet, c.path, []⟩) c.path = ne from HNe.out, HX.out] at this
            exact this)
          have bx9 : wr.heap.size < w9.heap.size := (Array.getElem?_eq_some_iff.1 BX9.out.1).1
          obtain ⟨y0, y1, y2, y3, y4, yf⟩ := row5c BX9.out.1
          have hWAh := Lib.hid hWA
          clear h9 hs9 ho9 rA rB bA bA2 x0 x1 x2 x3 x4 xf hWA
          rw [← hWAh.out] at CN2
          repeat (first | (go_at_call 30; fail) | go_skip | go_guarded | go_step | go_upon)
          rw [hWAh.out] at CN2 ⊢
          refine CN2.out.mono ?_
          rintro r wB ⟨vm, rfl, hom, SB, hB, hsB, hoB, hfB⟩
          simp only []
          obtain ⟨am, cm, hvm, _⟩ := owns_view hom
          rw [HNl.out] at hvm
          have KB : Hid (wB.ownsRow 0 45 4 (.slice a5 q c5) q (nodesC T0)) := Lib.hid (own_kept KA.out K9.out.2 hsB hoB).1
          have KLB : Hid (wB.ownsRow 0 9 1 (.slice al nl cl) ll.length (ll.map txt)) := Lib.hid (own_kept KLA.out KL9.out.2 hsB hoB).1
          have KMB : Hid (wB.ownsRow 0 9 1 vm ll.length (ll.map txt)) := Lib.hid (owns_base hom 0 (Nat.zero_le _))
          have rAB := (blk_kept RAA.out RA9.out.2 hsB hoB).1
          have rBB := (blk_kept RBA.out RB9.out.2 hsB hoB).1
          have rCB := (blk_kept RC.out.1 F9.out.1 hsB hoB).1
          have rDB := (blk_kept RC.out.2 F9.out.2 hsB hoB).1
          have HB := Lib.hid hB
          subst hvm
          obtain ⟨u0, u1, u2, u3, uf⟩ := row4 rAB
          obtain ⟨z0, z1, z2, zf⟩ := row3 rBB
          obtain ⟨p0, p1, p2, p3, pf⟩ := row4 rCB
          obtain ⟨r0, r1, r2, rf⟩ := row3 rDB
          have CTx : Hid (Calls Tryz.prog 21 #[.slice al nl cl, .slice am nl cm] wB fun e w' => e = .returned (.bool true) ∧ Below wB.heap.size wB w') := Lib.hid (by
            obtain ⟨ax, cx, e1, e2⟩ := layT_of KLB.out
            obtain ⟨ay, cy, e3, e4⟩ := layT_of KMB.out
            injection e1 with e1 _ _
            injection e3 with e3 _ _
            have := texts_eq al am cl cm ll wB (by rw [e1]; exact e2) (by rw [e3]; exact e4) (by rw [HNl.out]; unfold maxLen; omega)
            rw [HNl.out] at this
            exact this)
          clear hB hsB hoB hfB hom rAB rBB rCB rDB y0 y1 y2 y3 y4 yf
          repeat (first | (go_at_call 21; fail) | go_skip | go_guarded | go_step | go_upon)
          refine CTx.out.mono ?_
          rintro r wC ⟨rfl, hbC⟩
          simp only []
          have HC2 := Lib.hid (HB.out.below hbC)
          have KC := Lib.hid (owns_below KB.out hbC)
          clear hbC u0 u1 u2 u3 uf z0 z1 z2 zf p0 p1 p2 p3 pf r0 r1 r2 rf
          have CT2 : Hid (Calls Tryz.prog 15 #[.pointer (some ⟨P, 0, none⟩)] wC (TR.AtPost T0 wC)) := Lib.hid (by
            have := HC2.out.tree
            rw [show treeD (tick (tick (tick (tick DQ2 ⟨cGet, c.path, []⟩) ⟨cNames, c.path, []⟩) ⟨cGet, c.path, []⟩) ⟨cNames, c.path, []⟩) = T0 from HT0.out] at this
            exact this)
          repeat (first | (go_at_call 15; fail) | go_skip | go_guarded | go_step | go_upon)
          refine CT2.out.mono ?_
          rintro r wD ⟨vD, rfl, hoD, hbD⟩
          simp only []
          obtain ⟨aD, cD, hvD, hlD⟩ := lay_own hoD
          have HD := Lib.hid (HC2.out.below hbD)
          have CSm : Hid (Calls Tryz.prog 22 #[.slice a5 q c5, .slice aD q cD] wD fun r w' => r = .returned (.bool true) ∧ Below wD.heap.size wD w') := Lib.hid (by
            have h1 := owns_below KC.out hbD
            rw [← HQ.out] at h1
            obtain ⟨ao', c', e1, e2⟩ := lay_own h1
            injection e1 with e1 _ e3
            have hmx : T0.length ≤ maxLen := by rw [HQ.out]; unfold maxLen; omega
            have := TR.rsame_any a5 aD c5 cD T0 T0 wD (by rw [e1]; exact e2) hlD hmx hmx
            rw [HQ.out, decide_eq_true rfl] at this
            exact this)
          rw [HQ.out] at hvD
          subst hvD
          clear hoD hbD hlD
          repeat (first | (go_at_call 22; fail) | go_skip | go_guarded | go_step | go_upon)
          refine CSm.out.mono ?_
          rintro r wE ⟨rfl, hbE⟩
          simp only []
          have HEnd := Lib.hid (HD.out.below hbE)
          clear hbE
          repeat (first | go_skip | go_guarded | go_step | go_upon)
          exact ⟨⟨k + 1, SB, _, by go_num, by omega, by omega, HEnd.out.mono (by omega), (((HCn.out.tick _).tick _).tick _).tick _⟩, by simp [Go.RowKit.intOf]; omega⟩
      · have hkz : ¬ (k : Int) < m := by omega
        have HDx := Dr
        clear hd hlt hcalm
        repeat (first | go_skip | go_guarded | go_step | go_upon)
        go_ret
        exact ⟨rfl, Below.trans B1.out (HDx.out.bel.mono B1.out.size)⟩
  · have CN : Hid (Calls Tryz.prog 10 #[.slice a0 n c0] w1 fun r w' => r = .returned (.tuple #[.pointer none, .int .i64 60]) ∧ Below w1.heap.size w1 w') := Lib.hid (by
      have := dnew_no a0 c0 t w1 (HE.out.below B1.out) (HW.out.below B1.out) (by simpa using ht)
      rw [HN.out] at this
      exact this)
    clear ht
    repeat (first | (go_at_call 10; fail) | go_skip | go_guarded | go_step | go_upon)
    refine CN.out.mono ?_
    rintro r w2 ⟨rfl, hb2⟩
    simp only []
    have B2 := Lib.hid (Below.trans B1.out (hb2.mono B1.out.size))
    clear hb2
    repeat (first | go_skip | go_guarded | go_step | go_upon)
    go_ret
    exact ⟨rfl, B2.out⟩
end DG
end Go.Proofs.YtjkikkpbeceeeaaGreatDoor
end

section
/- DiskReads answers true for every list of nodes and every list of calls; they read behind the call as they read before. Condition: Go's two tables utf8.first and utf8.acceptRanges lie as Go's text lays them (tied to that text). -/
namespace Go.Proofs.YtjkikkpbeceeeaaGreatDoor
open Go.ChangeShapes Go.WideShapes Go.ChangeAt Go.RowKit Go.Lib
open Go.ChangeMaps (open_string shut_string)
namespace DiskReadsCard


set_option maxRecDepth 100000 in
theorem contract (H : Type) (enc : TypeId × Value → H) (W : World) (base : Nat) (args : Array Value) (ds gs : List (DataW H)) (before : List MemPlace)
    (hval : ∀ (j : Nat) t v, Tryz.f6.params[j]? = some t → args[j]? = some v → Value.okWide Tryz.prog W .any base t v)
    (hW : DataW.Whole enc Tryz.prog Tryz.f6.params.toList Rows.diskReadsSpec.vars false W args.toList ds gs before) (hL : laidMetH Tryz.prog FR.laid W) (hsh : W.ShapedOpen Tryz.prog) :
    Calls Tryz.prog 6 args W fun e W' => ∃ v, e = .returned v ∧ Rows.diskReadsSpec.post enc Tryz.prog Tryz.f6 false true false false W args v W' := by
  have hW' := hW
  obtain ⟨p, q, hA0, hV, rfl, hfz, hnd⟩ := hW
  have hA : DataW.TrodAll enc Tryz.prog W 0 (fun _ => true) true Tryz.f6.params.toList args.toList ds p := hA0
  rw [Tryz.params6] at hA hval
  obtain ⟨v0, vs0, d0, ds0, p0, q0, hargs, rfl, rfl, h0, r0⟩ := trodAll_cons hA
  obtain ⟨v1, vs1, d1, ds1, p1, q1, rfl, rfl, rfl, h1, r1⟩ := trodAll_cons r0
  obtain ⟨rfl, rfl, rfl⟩ := trodAll_nil r1
  obtain rfl : args = #[v0, v1] := by cases args; simp_all
  obtain ⟨rfl, rfl⟩ := trodVars_none hV
  refine LK.post_of rfl (by kernel_rfl) (by kernel_rfl) (fun gs h => by subst h; rfl) hW' ?_
  obtain ⟨a0, len0, cap0, rfl⟩ := okWide_slice Tryz.underlying22 (hval 0 22 v0 rfl rfl)
  obtain ⟨fuel0, hf0⟩ := h0
  obtain ⟨ts, rfl, H0⟩ := TF.nodes_wide hf0
  obtain ⟨a1, len1, cap1, rfl⟩ := okWide_slice Tryz.underlying27 (hval 1 27 v1 rfl rfl)
  obtain ⟨fuel1, hf1⟩ := h1
  obtain ⟨cs, rfl, hcap, hmax, hlay, hlong⟩ := DA.calls_arg hf1
  exact DG.reads_any a0 a1 cap0 cap1 ts cs W (FR.env_of hL hsh) H0 hlay hlong hcap hmax
theorem reads (os : Os) {H : Type} (enc : TypeId × Value → H) : ∃ places, DataW.whole enc Tryz.prog (FR.w0 os #[.slice none 0 0, .slice none 0 0]).memory Tryz.f6.params.toList Rows.diskReadsSpec.vars false #[Value.slice none 0 0, .slice none 0 0].toList 8 = some ([.nil, .nil], [], places) :=
  ⟨[], by kernel_rfl⟩
set_option maxRecDepth 100000 in
theorem lifted (os : Os) (started : os.Started) (H : Type) (enc : TypeId × Value → H) (F : Stop.Interp) :
    ReturnsInHanded {} Tryz.checked os 6 .any ((OpenSpec.ofChange Rows.diskReadsSpec).preRow enc Tryz.prog Tryz.f6 Rows.diskReadsRow.domain false Rows.diskReadsRow.laid) (((OpenSpec.ofChange Rows.diskReadsSpec).at F).post enc Tryz.prog Tryz.f6 false true false false) := by
  obtain ⟨places, hx⟩ := reads os enc
  refine returnsInHanded_of_row (C := Tryz.checked) (s := OpenSpec.ofChange Rows.diskReadsSpec) (laid := FR.laid) FR.own started (by kernel_rfl) Tryz.func6
    (FR.witness (enc := enc) #[.slice none 0 0, .slice none 0 0] (by kernel_rfl)
      (OpenSpec.preRow_of_cond 8 hx (by kernel_rfl) (fun k hk => by cases hk) (by kernel_rfl) (FR.met os _))) ?_
  intro W base args ds gs before hval hW _ _ _ hL hsh _
  exact contract H enc W base args ds gs before hval hW hL hsh
theorem said : Rows.DiskReadsSaid :=
  OpenClaim.holds_of_cond 6 Tryz.f6 rfl rfl rfl rfl rfl rfl rfl ⟨rfl, rfl, rfl, rfl, rfl⟩ rfl rfl rfl rfl rfl (by kernel_rfl) Tryz.func6 (by kernel_rfl)
    (of_decide_eq_true (by kernel_rfl)) (by unfold Func.isWrapper; first | (rw [if_pos (by decide +kernel)]; kernel_rfl) | (rw [if_neg (by decide +kernel)]; exact ⟨rfl, rfl⟩))
    (fun os started H enc _ F => by rw [OpenClaim.pre_eq_preRow]; exact lifted os started H enc F)
theorem plain (f : FuncId) (fn : Func) (hf : Tryz.pinned.checked.prog.funcNamed "hawser/hawserlaw07.DiskReads" = some f) (hfn : Tryz.pinned.checked.prog.funcs[f]? = some fn) :
    false = Tryz.pinned.checked.prog.looks [] ∧ ∀ (j : Nat) t, fn.params[j]? = some t → Tryz.pinned.checked.prog.wantsStandIn t = false := by
  obtain rfl : f = 6 := Option.some.inj ((show Tryz.prog.funcNamed "hawser/hawserlaw07.DiskReads" = some 6 by kernel_rfl).symm.trans hf) |>.symm
  obtain rfl : fn = Tryz.f6 := (Option.some.inj (Tryz.func6.symm.trans hfn)).symm
  refine ⟨by kernel_rfl, fun j t ht => ?_⟩
  have hall : (Tryz.f6.params.all fun t => !(Tryz.prog.wantsStandIn t)) = true := by kernel_rfl
  have := (Array.all_eq_true_iff_forall_mem.1 hall) t (Array.mem_of_getElem? ht)
  have h2 : Tryz.prog.wantsStandIn t = false := by simpa using this
  exact h2
end DiskReadsCard
theorem diskReads_card : Rows.DiskReadsCardSaid :=
  Claim7.holds_tied_plain_at .later [] _ _ _ _ DiskReadsCard.said (fun _ h => by cases h) (by kernel_rfl) (fun _ h => by cases h) diskReads_row_tie rfl ⟨rfl, rfl⟩ (by kernel_rfl) rfl DiskReadsCard.plain (by kernel_rfl)
#print axioms diskReads_card
end Go.Proofs.YtjkikkpbeceeeaaGreatDoor
end
