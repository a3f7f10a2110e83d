/- Footprints: what was there is as it was, but for the blocks of a set. (General: no program's text.) -/
import Derived.Below
import Derived.RowKit
import Derived.Laws.AppendOwn
set_option linter.all false
set_option maxRecDepth 100000
set_option maxHeartbeats 25600000
namespace Go.Proofs.Ytdkfoakmjeealaa
open Go.RowKit
namespace FP

/-- What was there is as it was, but for the blocks of S; the streams are as they were; no block has gone. -/
structure Out (S : Nat → Prop) (w w' : World) : Prop where
  os : w'.os = w.os
  tape : w'.tape = w.tape
  output : w'.output = w.output
  size : w.heap.size ≤ w'.heap.size
  block : ∀ k, k < w.heap.size → ¬ S k → w'.heap[k]? = w.heap[k]?
theorem Out.refl (S : Nat → Prop) (w : World) : Out S w w := ⟨rfl, rfl, rfl, Nat.le_refl _, fun _ _ _ => rfl⟩
theorem Out.mono {S T : Nat → Prop} {w w' : World} (h : Out S w w') (hs : ∀ k, k < w.heap.size → S k → T k) : Out T w w' :=
  ⟨h.os, h.tape, h.output, h.size, fun k hk hn => h.block k hk (fun hS => hn (hs k hk hS))⟩
/-- The second step's footprint holds nothing old but what is of the first's. -/
theorem Out.then {S T : Nat → Prop} {a b c : World} (h : Out S a b) (k : Out T b c) (hs : ∀ j, j < a.heap.size → T j → S j) : Out S a c :=
  ⟨k.os.trans h.os, k.tape.trans h.tape, k.output.trans h.output, Nat.le_trans h.size k.size, fun j hj hn =>
    (k.block j (Nat.lt_of_lt_of_le hj h.size) (fun hT => hn (hs j hj hT))).trans (h.block j hj hn)⟩
theorem Out.trans {S : Nat → Prop} {a b c : World} (h : Out S a b) (k : Out S b c) : Out S a c := h.then k (fun _ _ h => h)
theorem Out.of_below {B : Nat} {w w' : World} (h : Below B w w') : Out (fun k => B ≤ k) w w' := ⟨h.os, h.tape, h.output, h.size, fun k _ hn => h.block k (by omega)⟩
theorem Out.below {S : Nat → Prop} {B : Nat} {w w' : World} (h : Out S w w') (hs : ∀ k, k < B → k < w.heap.size → ¬ S k) (hB : B ≤ w.heap.size) : Below B w w' :=
  ⟨h.os, h.tape, h.output, h.size, fun k hk => h.block k (by omega) (hs k hk (by omega))⟩
/-- A call that changes nothing old. -/
theorem Out.thenBelow {S : Nat → Prop} {a b c : World} (h : Out S a b) (k : Below b.heap.size b c) : Out S a c :=
  h.then (Out.of_below k) (fun j hj hT => absurd hT (by have := h.size; omega))
theorem Out.alloc {S : Nat → Prop} {a w : World} (h : Out S a w) (o : Obj) : Out S a (w.alloc o) :=
  h.thenBelow ((Below.refl _ _).alloc (Nat.le_refl _) o)
theorem Out.drew {S : Nat → Prop} {a w : World} (h : Out S a w) : Out S a w.drew := ⟨h.os, h.tape, h.output, h.size, h.block⟩
theorem Out.setCell {S : Nat → Prop} {a w : World} (h : Out S a w) {p : Addr} (hp : p.block < a.heap.size → S p.block) (u : Value) : Out S a (w.setCell p u) :=
  h.then (T := fun k => k = p.block) ⟨rfl, rfl, rfl, by simp [World.setCell], fun k _ hk => Below.heap_setCell _ _ _ _ hk⟩ (fun j hj hT => by subst hT; exact hp hj)
theorem Out.grown {S : Nat → Prop} {a w w' : World} {row : Option Nat} (h : Out S a w) (hg : w.grownBy w' row) (hr : ∀ k, row = some k → k < a.heap.size → S k) : Out S a w' :=
  h.then (T := fun k => row = some k) ⟨hg.os, hg.tape, hg.output, hg.size, fun k hk hn => hg.block k hk (fun e => hn e.symm)⟩ (fun j hj hT => hr j hT hj)
theorem Out.cell {S : Nat → Prop} {w w' : World} (h : Out S w w') {p : Addr} (hp : p.block < w.heap.size) (hn : ¬ S p.block) : w'.cell? p = w.cell? p := World.cell?_of_block (w := w) (h.block p.block hp hn)
theorem Out.frozen {S : Nat → Prop} {w w' : World} (h : Out S w w') {p : Addr} (hp : p.block < w.heap.size) (hn : ¬ S p.block) : w'.frozen? p = w.frozen? p := World.frozen?_of_block (w := w) (h.block p.block hp hn)
theorem Out.row {S : Nat → Prop} {w w' : World} (h : Out S w w') {k : Nat} {o : Obj} (ho : w.heap[k]? = some o) (hn : ¬ S k) : w'.heap[k]? = some o :=
  (h.block k (by
    rcases Nat.lt_or_ge k w.heap.size with h1 | h1
    · exact h1
    · rw [Array.getElem?_eq_none h1] at ho; cases ho) hn).trans ho
/-- A row that a call owns, outside of the footprint. -/
theorem Out.owns {S : Nat → Prop} {w w' : World} (h : Out S w w') {base : Nat} {e : TypeId} {size n : Nat} {v : Value} {xs : List Value} (ho : w.ownsRow base e size v n xs) (hn : ∀ g, v.ownBlock = some g → ¬ S g) : w'.ownsRow base e size v n xs := by
  obtain ⟨h1, h2 | ⟨g, cap, cur, rfl, hg, hr, h3⟩⟩ := ho
  · exact ⟨h1, .inl h2⟩
  · exact ⟨h1, .inr ⟨g, cap, cur, rfl, hg, h.row hr (hn g rfl), h3⟩⟩
end FP
end Go.Proofs.Ytdkfoakmjeealaa
