/- Texts of this seat, put one behind the other: Own Foot DlPlain DlMem DlMap. -/
import Derived.Test.YtmpmmebmhffaeaaDoorQHashPlain
import Derived.Test.YtmpmmebmhffaeaaDoorQHashSha
import Derived.Test.YtmpmmebmhffaeaaDoorChecked
import Derived.Lib.OthersKept
import Derived.Laws.NewBlocks
import Derived.WalkMore
import Derived.Lib.Hide
import Derived.OwnWalk
import Derived.Laws.AppendOwn
import Derived.Laws.OwnMore
import Derived.Below
import Derived.RowKit
import Derived.Lib.Strings
import Derived.WalkKit
import Derived.IntWalk
import Derived.Maps.OwnOps
import Derived.Maps.OwnSet
import Derived.Maps.Views
import Derived.DeepKeys4
set_option linter.all false
set_option maxRecDepth 100000
set_option maxHeartbeats 25600000
section
/- What is owned stays owned (general; no function of the program is read here). -/
namespace Go.Proofs.YtmpmmebmhffaeaaDoor
open Go.RowKit Go.Lib
namespace OM

/-- The end of a body without results. -/
theorem end0 {P : Program} {fn : Func} {R : Ending → World → Prop} {a : Act} {w : World} (hr : fn.results = #[]) (hd : a.defers = []) (hR : R (.returned (.tuple #[])) w) : bodyPost P fn R .normal a w := by
  exact bodyPost_end (results_none hr _ _ _) hd hR
/- what is owned stays owned -/
theorem owns_below {w w' : World} {base e size : Nat} {v : Value} {n : Nat} {xs : List Value} (h : w.ownsRow base e size v n xs) (hb : Below w.heap.size w w') : w'.ownsRow base e size v n xs := by
  refine ⟨h.1, ?_⟩
  rcases h.2 with hn | ⟨g, cap, cur, rfl, hb', hgg, rest⟩
  · exact .inl hn
  · exact .inr ⟨g, cap, cur, rfl, hb', by rw [hb.block g (Array.getElem?_eq_some_iff.1 hgg).1]; exact hgg, rest⟩
theorem owns_others {w w' : World} {T base e size : Nat} {v : Value} {n : Nat} {xs : List Value} (h : w.ownsRow base e size v n xs) (hne : e ≠ T) (hk : OthersKept T none w w') : w'.ownsRow base e size v n xs := by
  refine ⟨h.1, ?_⟩
  rcases h.2 with hn | ⟨g, cap, cur, rfl, hb', hgg, rest⟩
  · exact .inl hn
  · refine .inr ⟨g, cap, cur, rfl, hb', hk g _ hgg (by simp) (fun c fz he => ?_), rest⟩
    simp only [Obj.cells.injEq] at he
    exact hne he.2.1
theorem owns_base {w : World} {base e size : Nat} {v : Value} {n : Nat} {xs : List Value} (h : w.ownsRow base e size v n xs) (base' : Nat) (hb : base' ≤ base) : w.ownsRow base' e size v n xs := by
  refine ⟨h.1, ?_⟩
  rcases h.2 with hn | ⟨g, cap, cur, rfl, hb', rest⟩
  · exact .inl hn
  · exact .inr ⟨g, cap, cur, rfl, by omega, rest⟩
theorem below_others {w w' : World} (h : Below w.heap.size w w') (T : Nat) (b : Option Nat) : OthersKept T b w w' := by
  intro k o hk _ _
  rw [h.block k (Array.getElem?_eq_some_iff.1 hk).1]
  exact hk
theorem owns_kind {w : World} {base e size : Nat} {v : Value} {n : Nat} {xs : List Value} (h : w.ownsRow base e size v n xs) : ∀ g, v.ownBlock = some g → ∃ c fz, w.heap[g]? = some (.cells c e fz) := by
  intro g hg
  rcases h.2 with ⟨rfl, _⟩ | ⟨g', cap, cur, rfl, _, hgg, _⟩
  · simp [Value.ownBlock] at hg
  · simp [Value.ownBlock] at hg
    subst hg
    exact ⟨cur, _, hgg⟩
theorem others_grown {w w' : World} {base e size : Nat} {v : Value} {n : Nat} {xs : List Value} (h : w.ownsRow base e size v n xs) (hg : w.grownBy w' v.ownBlock) : OthersKept e none w w' :=
  (OthersKept.refl e none w).grown hg (owns_kind h)
/-- An owned value, as its parts: where it is not empty it has an address, and the cells lie there. -/
theorem owns_view {w : World} {base e size : Nat} {v : Value} {n : Nat} {xs : List Value} (h : w.ownsRow base e size v n xs) : ∃ ao c, v = .slice ao n c ∧ (0 < n → ∃ g, ao = some ⟨g, 0, none⟩ ∧ g < w.heap.size ∧ base ≤ g ∧ ∀ j, j < n * size → w.cell? ⟨g, j, none⟩ = xs[j]?) := by
  have h0 := h
  rcases h.2 with ⟨rfl, rfl⟩ | ⟨g, cap, cur, rfl, hb, hgg, _⟩
  · exact ⟨none, 0, rfl, fun h => absurd h (Nat.lt_irrefl _)⟩
  · exact ⟨_, cap, rfl, fun _ => ⟨g, rfl, (Array.getElem?_eq_some_iff.1 hgg).1, hb, fun j hj => h0.cellAt j hj⟩⟩
theorem owns_len {w : World} {base e size : Nat} {v : Value} {n : Nat} {xs : List Value} (h : w.ownsRow base e size v n xs) : n ≤ maxLen := by
  rcases h.2 with ⟨_, rfl⟩ | ⟨g, cap, cur, _, _, _, h1, h2, _⟩
  · exact Nat.zero_le _
  · omega
theorem owns_one {w : World} {base e size : Nat} {v : Value} {n : Nat} {xs : List Value} (h : w.ownsRow base e size v n xs) : v.oneCell' = true := by
  obtain ⟨ao, c, rfl, _⟩ := owns_view h
  rfl

theorem owns_drew {w w' : World} {base e size : Nat} {v : Value} {n : Nat} {xs : List Value} (h : w.ownsRow base e size v n xs) (hb : Below w.heap.size w w') (base' : Nat) (hb2 : base' ≤ base) : w'.ownsRow base' e size v n xs := owns_base (owns_below h hb) base' hb2
theorem one_new (w : World) (x : Value) (t : TypeId) : ∀ (j : Nat) (u : Value), [x][j]? = some u → (w.alloc (.cells #[x] t)).cell? ((⟨w.heap.size, 0, none⟩ : Addr).add j) = some u := by
  intro j u hj
  match j with
  | 0 =>
    simp at hj
    subst hj
    have e : (⟨w.heap.size, 0, none⟩ : Addr).add 0 = ⟨w.heap.size, 0, none⟩ := rfl
    rw [e, World.cell?_alloc_at _ _ _ _ rfl]
    rfl
  | j + 1 => simp at hj
end OM
end Go.Proofs.YtmpmmebmhffaeaaDoor
end
section
/- Footprints: what was there is as it was, but for the blocks of a set. (General: no program's text.) -/
namespace Go.Proofs.YtmpmmebmhffaeaaDoor
open Go.RowKit
namespace FP

/-- What was there is as it was, but for the blocks of S; the streams are as they were; no block has gone. -/
structure Out (S : Nat → Prop) (w w' : World) : Prop where
  os : w'.os = w.os
  tape : w'.tape = w.tape
  output : w'.output = w.output
  size : w.heap.size ≤ w'.heap.size
  block : ∀ k, k < w.heap.size → ¬ S k → w'.heap[k]? = w.heap[k]?
theorem Out.refl (S : Nat → Prop) (w : World) : Out S w w := ⟨rfl, rfl, rfl, Nat.le_refl _, fun _ _ _ => rfl⟩
theorem Out.mono {S T : Nat → Prop} {w w' : World} (h : Out S w w') (hs : ∀ k, k < w.heap.size → S k → T k) : Out T w w' :=
  ⟨h.os, h.tape, h.output, h.size, fun k hk hn => h.block k hk (fun hS => hn (hs k hk hS))⟩
/-- The second step's footprint holds nothing old but what is of the first's. -/
theorem Out.then {S T : Nat → Prop} {a b c : World} (h : Out S a b) (k : Out T b c) (hs : ∀ j, j < a.heap.size → T j → S j) : Out S a c :=
  ⟨k.os.trans h.os, k.tape.trans h.tape, k.output.trans h.output, Nat.le_trans h.size k.size, fun j hj hn =>
    (k.block j (Nat.lt_of_lt_of_le hj h.size) (fun hT => hn (hs j hj hT))).trans (h.block j hj hn)⟩
theorem Out.trans {S : Nat → Prop} {a b c : World} (h : Out S a b) (k : Out S b c) : Out S a c := h.then k (fun _ _ h => h)
theorem Out.of_below {B : Nat} {w w' : World} (h : Below B w w') : Out (fun k => B ≤ k) w w' := ⟨h.os, h.tape, h.output, h.size, fun k _ hn => h.block k (by omega)⟩
theorem Out.below {S : Nat → Prop} {B : Nat} {w w' : World} (h : Out S w w') (hs : ∀ k, k < B → k < w.heap.size → ¬ S k) (hB : B ≤ w.heap.size) : Below B w w' :=
  ⟨h.os, h.tape, h.output, h.size, fun k hk => h.block k (by omega) (hs k hk (by omega))⟩
/-- A call that changes nothing old. -/
theorem Out.thenBelow {S : Nat → Prop} {a b c : World} (h : Out S a b) (k : Below b.heap.size b c) : Out S a c :=
  h.then (Out.of_below k) (fun j hj hT => absurd hT (by have := h.size; omega))
theorem Out.alloc {S : Nat → Prop} {a w : World} (h : Out S a w) (o : Obj) : Out S a (w.alloc o) :=
  h.thenBelow ((Below.refl _ _).alloc (Nat.le_refl _) o)
theorem Out.drew {S : Nat → Prop} {a w : World} (h : Out S a w) : Out S a w.drew := ⟨h.os, h.tape, h.output, h.size, h.block⟩
theorem Out.setCell {S : Nat → Prop} {a w : World} (h : Out S a w) {p : Addr} (hp : p.block < a.heap.size → S p.block) (u : Value) : Out S a (w.setCell p u) :=
  h.then (T := fun k => k = p.block) ⟨rfl, rfl, rfl, by simp [World.setCell], fun k _ hk => Below.heap_setCell _ _ _ _ hk⟩ (fun j hj hT => by subst hT; exact hp hj)
theorem Out.grown {S : Nat → Prop} {a w w' : World} {row : Option Nat} (h : Out S a w) (hg : w.grownBy w' row) (hr : ∀ k, row = some k → k < a.heap.size → S k) : Out S a w' :=
  h.then (T := fun k => row = some k) ⟨hg.os, hg.tape, hg.output, hg.size, fun k hk hn => hg.block k hk (fun e => hn e.symm)⟩ (fun j hj hT => hr j hT hj)
theorem Out.cell {S : Nat → Prop} {w w' : World} (h : Out S w w') {p : Addr} (hp : p.block < w.heap.size) (hn : ¬ S p.block) : w'.cell? p = w.cell? p := World.cell?_of_block (w := w) (h.block p.block hp hn)
theorem Out.frozen {S : Nat → Prop} {w w' : World} (h : Out S w w') {p : Addr} (hp : p.block < w.heap.size) (hn : ¬ S p.block) : w'.frozen? p = w.frozen? p := World.frozen?_of_block (w := w) (h.block p.block hp hn)
theorem Out.row {S : Nat → Prop} {w w' : World} (h : Out S w w') {k : Nat} {o : Obj} (ho : w.heap[k]? = some o) (hn : ¬ S k) : w'.heap[k]? = some o :=
  (h.block k (by
    rcases Nat.lt_or_ge k w.heap.size with h1 | h1
    · exact h1
    · rw [Array.getElem?_eq_none h1] at ho; cases ho) hn).trans ho
/-- A row that a call owns, outside of the footprint. -/
theorem Out.owns {S : Nat → Prop} {w w' : World} (h : Out S w w') {base : Nat} {e : TypeId} {size n : Nat} {v : Value} {xs : List Value} (ho : w.ownsRow base e size v n xs) (hn : ∀ g, v.ownBlock = some g → ¬ S g) : w'.ownsRow base e size v n xs := by
  obtain ⟨h1, h2 | ⟨g, cap, cur, rfl, hg, hr, h3⟩⟩ := ho
  · exact ⟨h1, .inl h2⟩
  · exact ⟨h1, .inr ⟨g, cap, cur, rfl, hg, h.row hr (hn g rfl), h3⟩⟩
end FP
end Go.Proofs.YtmpmmebmhffaeaaDoor
end
section
/- Layer 14: a text told by another one, over lists of bytes (no program is read here). -/
namespace Go.Proofs.YtmpmmebmhffaeaaDoor
open Go
namespace DL
open HP HS

/-- What is told of a block: its weak sum, its fingerprint, its length. -/
abbrev Bk := Nat × List UInt8 × Int
/-- A step: from, count, text. -/
abbrev Stp := Int × Int × List UInt8
def tellB (s : List UInt8) : Bk := (weakL s, shaL s, (s.length : Int))
def cnt (n size : Nat) : Nat := (n + size - 1) / size
def blockAt (base : List UInt8) (size i : Nat) : List UInt8 := (base.drop (i * size)).take size
def signL (base : List UInt8) (size : Nat) : List Bk := (List.range (cnt base.length size)).map fun i => tellB (blockAt base size i)
theorem sign_len (base : List UInt8) (size : Nat) : (signL base size).length = cnt base.length size := by unfold signL; rw [List.length_map, List.length_range]
theorem sign_at (base : List UInt8) (size i : Nat) (h : i < cnt base.length size) : (signL base size)[i]? = some (tellB (blockAt base size i)) := by
  unfold signL
  rw [List.getElem?_map, List.getElem?_range h]
  rfl
theorem cnt_lt {n size i : Nat} (hs : 1 ≤ size) : i < cnt n size ↔ i * size < n := by
  unfold cnt
  constructor
  · intro h
    have h1 : (i + 1) * size ≤ n + size - 1 := by
      have := Nat.mul_le_mul_right size (show i + 1 ≤ (n + size - 1) / size by omega)
      exact Nat.le_trans this (Nat.div_mul_le_self _ _)
    rw [Nat.add_mul, Nat.one_mul] at h1
    omega
  · intro h
    have h1 : (i + 1) * size ≤ n + size - 1 := by
      rw [Nat.add_mul, Nat.one_mul]
      omega
    have := (Nat.le_div_iff_mul_le (by omega)).2 h1
    omega
theorem cnt_le {n size : Nat} (hs : 1 ≤ size) : cnt n size ≤ n := by
  rcases Nat.lt_or_ge n (cnt n size) with h | h
  · have h1 := (cnt_lt (n := n) (i := n) hs).1 h
    have := Nat.mul_le_mul_left n hs
    omega
  · exact h
/-- The number of the first of the list that is this one. -/
def findB : List Bk → Bk → Option Nat
  | [], _ => none
  | x :: r, b => if x = b then some 0 else (findB r b).map (· + 1)
theorem findB_at : ∀ {bs : List Bk} {b : Bk} {i : Nat}, findB bs b = some i → bs[i]? = some b
  | x :: r, b, i, h => by
    unfold findB at h
    split at h
    · rename_i e
      injection h with h
      rw [← h, e]
      rfl
    · cases hr : findB r b with
      | none => rw [hr] at h; cases h
      | some j =>
        rw [hr] at h
        injection h with h
        rw [← h]
        have := findB_at hr
        simpa using this
theorem findB_lt {bs : List Bk} {b : Bk} {i : Nat} (h : findB bs b = some i) : i < bs.length := (List.getElem?_eq_some_iff.1 (findB_at h)).1
theorem findB_mem : ∀ {bs : List Bk} {b : Bk}, b ∈ bs → ∃ i, findB bs b = some i
  | x :: r, b, h => by
    unfold findB
    by_cases e : x = b
    · exact ⟨0, if_pos e⟩
    · rw [if_neg e]
      rcases List.mem_cons.1 h with e2 | h2
      · exact absurd e2.symm e
      · obtain ⟨i, hi⟩ := findB_mem h2
        exact ⟨i + 1, by rw [hi]; rfl⟩
theorem findB_none {bs : List Bk} {b : Bk} (h : findB bs b = none) : b ∉ bs := fun hm => by
  obtain ⟨i, hi⟩ := findB_mem hm
  rw [h] at hi
  cases hi
theorem findB_snoc (bs : List Bk) (x b : Bk) : findB (bs ++ [x]) b = match findB bs b with | some i => some i | none => if x = b then some bs.length else none := by
  induction bs with
  | nil => rfl
  | cons y r ih =>
    rw [List.cons_append]
    unfold findB
    by_cases e : y = b
    · rw [if_pos e, if_pos e]
    · rw [if_neg e, if_neg e, ih]
      cases findB r b with
      | some i => rfl
      | none =>
        simp only [Option.map_none]
        by_cases e2 : x = b
        · rw [if_pos e2, if_pos e2, List.length_cons]; rfl
        · rw [if_neg e2, if_neg e2]; rfl
/-- The first of the list that is this one, by what stands ahead. -/
theorem findB_first : ∀ {bs : List Bk} {b : Bk} {i : Nat}, bs[i]? = some b → (∀ j, j < i → bs[j]? ≠ some b) → findB bs b = some i
  | x :: r, b, 0, h, _ => by
    have : x = b := by simpa using h
    unfold findB
    rw [if_pos this]
  | x :: r, b, i + 1, h, hj => by
    have h0 := hj 0 (Nat.succ_pos _)
    have : x ≠ b := fun e => h0 (by rw [e]; rfl)
    unfold findB
    rw [if_neg this, findB_first (bs := r) (i := i) (by simpa using h) (fun j hji => by have := hj (j + 1) (by omega); simpa using this)]
    rfl
theorem findB_not : ∀ {bs : List Bk} {b : Bk}, (∀ j : Nat, bs[j]? ≠ some b) → findB bs b = none := fun {bs b} h => by
  cases hf : findB bs b with
  | none => rfl
  | some i => exact absurd (findB_at hf) (h i)
/-- A copy of this block more. -/
def addC (ops : List Stp) (i : Int) : List Stp :=
  match ops.getLast? with
  | some x => if 0 < x.2.1 ∧ x.1 + x.2.1 = i then ops.dropLast ++ [(x.1, x.2.1 + 1, x.2.2)] else ops ++ [(i, 1, [])]
  | none => ops ++ [(i, 1, [])]
/-- A byte more. -/
def addT (ops : List Stp) (c : UInt8) : List Stp :=
  match ops.getLast? with
  | some x => if x.2.1 = 0 then ops.dropLast ++ [(x.1, x.2.1, x.2.2 ++ [c])] else ops ++ [(0, 0, [c])]
  | none => ops ++ [(0, 0, [c])]
def goL (bs : List Bk) (size : Nat) : Nat → List UInt8 → List Stp → List Stp
  | 0, _, ops => ops
  | n + 1, d, ops =>
    match d with
    | [] => ops
    | c :: r =>
      match findB bs (tellB ((c :: r).take size)) with
      | some i => goL bs size n ((c :: r).drop size) (addC ops i)
      | none => goL bs size n r (addT ops c)
theorem goL_fuel (bs : List Bk) {size : Nat} (hs : 1 ≤ size) : ∀ (n m : Nat) (d : List UInt8) (ops : List Stp), d.length ≤ n → d.length ≤ m → goL bs size n d ops = goL bs size m d ops
  | 0, m, d, ops, h, _ => by
    have : d = [] := List.eq_nil_of_length_eq_zero (by omega)
    subst this
    cases m <;> rfl
  | n + 1, 0, d, ops, _, h => by
    have : d = [] := List.eq_nil_of_length_eq_zero (by omega)
    subst this
    rfl
  | n + 1, m + 1, d, ops, h, h2 => by
    cases d with
    | nil => rfl
    | cons c r =>
      rw [List.length_cons] at h h2
      unfold goL
      simp only
      cases findB bs (tellB ((c :: r).take size)) with
      | some i =>
        simp only
        have hl : ((c :: r).drop size).length ≤ r.length := by rw [List.length_drop, List.length_cons]; omega
        exact goL_fuel bs hs n m _ _ (by omega) (by omega)
      | none =>
        simp only
        exact goL_fuel bs hs n m _ _ (by omega) (by omega)
/-- From this rest on. -/
def goF (bs : List Bk) (size : Nat) (d : List UInt8) (ops : List Stp) : List Stp := goL bs size d.length d ops
theorem goF_nil (bs : List Bk) (size : Nat) (ops : List Stp) : goF bs size [] ops = ops := rfl
theorem goF_some {bs : List Bk} {size : Nat} (hs : 1 ≤ size) {d : List UInt8} {ops : List Stp} {i : Nat} (hd : d ≠ []) (h : findB bs (tellB (d.take size)) = some i) : goF bs size d ops = goF bs size (d.drop size) (addC ops i) := by
  cases d with
  | nil => exact absurd rfl hd
  | cons c r =>
    unfold goF
    rw [List.length_cons, goL]
    simp only [h]
    have hl : ((c :: r).drop size).length ≤ r.length := by rw [List.length_drop, List.length_cons]; omega
    exact goL_fuel bs hs _ _ _ _ hl (Nat.le_refl _)
theorem goF_none {bs : List Bk} {size : Nat} {c : UInt8} {r : List UInt8} {ops : List Stp} (h : findB bs (tellB ((c :: r).take size)) = none) : goF bs size (c :: r) ops = goF bs size r (addT ops c) := by
  unfold goF
  rw [List.length_cons, goL]
  simp only [h]
def makeL (data : List UInt8) (bs : List Bk) (size : Nat) : List Stp := goF bs size data []
/-- What isn't told yet, as a text. -/
def pend (ops : List Stp) (u : List UInt8) : List Stp := if u = [] then ops else ops ++ [(0, 0, u)]
/-- The last step isn't a text. -/
def NoText (ops : List Stp) : Prop := ∀ x, ops.getLast? = some x → 0 < x.2.1
theorem pend_nil (ops : List Stp) : pend ops [] = ops := rfl
theorem pend_text {ops : List Stp} (h : NoText ops) (u : List UInt8) (c : UInt8) : addT (pend ops u) c = pend ops (u ++ [c]) := by
  unfold pend
  rw [if_neg (show u ++ [c] ≠ [] by simp)]
  by_cases e : u = []
  · rw [if_pos e, e, List.nil_append]
    unfold addT
    cases hl : ops.getLast? with
    | none => rfl
    | some x => simp only; rw [if_neg (by have := h x hl; omega)]
  · rw [if_neg e]
    unfold addT
    rw [List.getLast?_concat]
    simp only
    rw [if_pos trivial, List.dropLast_concat]
theorem noText_addC (ops : List Stp) (i : Int) : NoText (addC ops i) := fun x hx => by
  unfold addC at hx
  cases hl : ops.getLast? with
  | none =>
    rw [hl] at hx
    simp only [List.getLast?_concat] at hx
    injection hx with hx
    rw [← hx]; exact Int.one_pos
  | some y =>
    rw [hl] at hx
    simp only at hx
    split at hx
    · rename_i h
      rw [List.getLast?_concat] at hx
      injection hx with hx
      rw [← hx]
      simp only
      omega
    · rw [List.getLast?_concat] at hx
      injection hx with hx
      rw [← hx]; exact Int.one_pos
/-- All steps keep within so many blocks. -/
def Within (nb : Nat) (ops : List Stp) : Prop := ∀ x ∈ ops, 0 ≤ x.1 ∧ 0 ≤ x.2.1 ∧ x.1 + x.2.1 ≤ nb
theorem within_addC {nb : Nat} {ops : List Stp} (h : Within nb ops) {i : Nat} (hi : i < nb) : Within nb (addC ops i) := fun x hx => by
  unfold addC at hx
  have key : ∀ y ∈ ops ++ [((i : Int), (1 : Int), ([] : List UInt8))], 0 ≤ y.1 ∧ 0 ≤ y.2.1 ∧ y.1 + y.2.1 ≤ nb := fun y hy => by
    rcases List.mem_append.1 hy with hy | hy
    · exact h y hy
    · rw [List.mem_singleton] at hy
      subst hy
      refine ⟨?_, ?_, ?_⟩ <;> simp only <;> omega
  cases hl : ops.getLast? with
  | none => rw [hl] at hx; exact key x hx
  | some y =>
    rw [hl] at hx
    simp only at hx
    split at hx
    · rename_i hc
      have hy := h y (List.mem_of_getLast? hl)
      rcases List.mem_append.1 hx with hx | hx
      · exact h x (List.dropLast_subset _ hx)
      · rw [List.mem_singleton] at hx
        subst hx
        simp only
        omega
    · exact key x hx
theorem within_pend {nb : Nat} {ops : List Stp} (h : Within nb ops) (u : List UInt8) : Within nb (pend ops u) := fun x hx => by
  unfold pend at hx
  split at hx
  · exact h x hx
  · rcases List.mem_append.1 hx with hx | hx
    · exact h x hx
    · rw [List.mem_singleton] at hx
      subst hx
      refine ⟨?_, ?_, ?_⟩ <;> simp only <;> omega
theorem within_addT {nb : Nat} {ops : List Stp} (h : Within nb ops) (c : UInt8) : Within nb (addT ops c) := fun x hx => by
  unfold addT at hx
  have key : ∀ y ∈ ops ++ [((0 : Int), (0 : Int), [c])], 0 ≤ y.1 ∧ 0 ≤ y.2.1 ∧ y.1 + y.2.1 ≤ nb := fun y hy => by
    rcases List.mem_append.1 hy with hy | hy
    · exact h y hy
    · rw [List.mem_singleton] at hy
      subst hy
      refine ⟨?_, ?_, ?_⟩ <;> simp only <;> omega
  cases hl : ops.getLast? with
  | none => rw [hl] at hx; exact key x hx
  | some y =>
    rw [hl] at hx
    simp only at hx
    split at hx
    · have hy := h y (List.mem_of_getLast? hl)
      rcases List.mem_append.1 hx with hx | hx
      · exact h x (List.dropLast_subset _ hx)
      · rw [List.mem_singleton] at hx
        subst hx
        exact hy
    · exact key x hx
/-- How many bytes are new. -/
def newL : List Stp → Nat
  | [] => 0
  | x :: r => x.2.2.length + newL r
theorem newL_app (a b : List Stp) : newL (a ++ b) = newL a + newL b := by
  induction a with
  | nil => simp [newL]
  | cons x r ih => rw [List.cons_append, newL, newL, ih]; omega
theorem newL_last {ops : List Stp} {x : Stp} (h : ops.getLast? = some x) : newL ops = newL ops.dropLast + x.2.2.length := by
  obtain ⟨q, rfl⟩ := List.getLast?_eq_some_iff.1 h
  rw [List.dropLast_concat, newL_app]
  simp [newL]
theorem newL_addC (ops : List Stp) (i : Int) : newL (addC ops i) = newL ops := by
  unfold addC
  cases hl : ops.getLast? with
  | none => simp only; rw [newL_app]; simp [newL]
  | some y =>
    simp only
    split
    · rw [newL_app, newL_last hl]; simp [newL]
    · rw [newL_app]; simp [newL]
theorem newL_addT (ops : List Stp) (c : UInt8) : newL (addT ops c) = newL ops + 1 := by
  unfold addT
  cases hl : ops.getLast? with
  | none => simp only; rw [newL_app]; simp [newL]
  | some y =>
    simp only
    split
    · rw [newL_app, newL_last hl]; simp [newL]; omega
    · rw [newL_app]; simp [newL]
theorem goL_new (bs : List Bk) {size : Nat} (hs : 1 ≤ size) : ∀ (n : Nat) (d : List UInt8) (ops : List Stp), d.length ≤ n → newL (goL bs size n d ops) ≤ newL ops + d.length
  | 0, d, ops, _ => by unfold goL; omega
  | n + 1, d, ops, h => by
    cases d with
    | nil => unfold goL; simp
    | cons c r =>
      rw [List.length_cons] at h
      unfold goL
      simp only
      cases findB bs (tellB ((c :: r).take size)) with
      | some i =>
        simp only
        have hl : ((c :: r).drop size).length ≤ r.length := by rw [List.length_drop, List.length_cons]; omega
        have := goL_new bs hs n ((c :: r).drop size) (addC ops i) (by omega)
        rw [newL_addC] at this
        rw [List.length_cons]
        omega
      | none =>
        simp only
        have := goL_new bs hs n r (addT ops c) (by omega)
        rw [newL_addT] at this
        rw [List.length_cons]
        omega
theorem goF_new (bs : List Bk) {size : Nat} (hs : 1 ≤ size) (d : List UInt8) (ops : List Stp) : newL (goF bs size d ops) ≤ newL ops + d.length := goL_new bs hs _ d ops (Nat.le_refl _)
theorem block_found {base : List UInt8} {size : Nat} (hs : 1 ≤ size) {k : Nat} (hk : k * size < base.length) : ∃ i, findB (signL base size) (tellB ((base.drop (k * size)).take size)) = some i :=
  findB_mem (List.mem_of_getElem? (sign_at base size k ((cnt_lt hs).2 hk)))
/-- Of a text itself nothing is new. -/
theorem same_new {base : List UInt8} {size : Nat} (hs : 1 ≤ size) : ∀ (m k : Nat) (ops : List Stp), base.length - k * size ≤ m → newL (goF (signL base size) size (base.drop (k * size)) ops) = newL ops
  | m, k, ops, hm => by
    by_cases hk : k * size < base.length
    · obtain ⟨i, hi⟩ := block_found hs hk
      rw [goF_some hs (fun e => by have := congrArg List.length e; rw [List.length_drop] at this; simp at this; omega) hi, List.drop_drop]
      cases m with
      | zero => omega
      | succ m =>
        have e : k * size + size = (k + 1) * size := by rw [Nat.add_mul, Nat.one_mul]
        rw [e, same_new hs m (k + 1) _ (by rw [← e]; omega), newL_addC]
    · rw [List.drop_eq_nil_of_le (by omega), goF_nil]
theorem make_same {base : List UInt8} {size : Nat} (hs : 1 ≤ size) : newL (makeL base (signL base size) size) = 0 := by
  have := same_new (base := base) hs base.length 0 [] (by omega)
  rw [Nat.zero_mul, List.drop_zero] at this
  exact this
/-- Of what stands behind whole blocks no more than that is new. -/
theorem more_new {base more : List UInt8} {size : Nat} (hs : 1 ≤ size) (hw : base.length % size = 0) : ∀ (m k : Nat) (ops : List Stp), k * size ≤ base.length → base.length - k * size ≤ m → newL (goF (signL base size) size (base.drop (k * size) ++ more) ops) ≤ newL ops + more.length
  | m, k, ops, hk0, hm => by
    by_cases hk : k * size < base.length
    · obtain ⟨i, hi⟩ := block_found hs hk
      have e : k * size + size = (k + 1) * size := by rw [Nat.add_mul, Nat.one_mul]
      have hw2 : size ≤ base.length - k * size := by
        have h1 : size ∣ base.length := Nat.dvd_of_mod_eq_zero hw
        have h2 : size ∣ base.length - k * size := Nat.dvd_sub h1 (Nat.dvd_mul_left _ _)
        exact Nat.le_of_dvd (by omega) h2
      have ht : (base.drop (k * size) ++ more).take size = (base.drop (k * size)).take size := by
        rw [List.take_append_of_le_length (by rw [List.length_drop]; exact hw2)]
      rw [goF_some hs (fun e => by have := congrArg List.length e; rw [List.length_append, List.length_drop] at this; simp at this; omega) (by rw [ht]; exact hi)]
      rw [List.drop_append_of_le_length (by rw [List.length_drop]; exact hw2), List.drop_drop, e]
      cases m with
      | zero => omega
      | succ m =>
        have := more_new (more := more) hs hw m (k + 1) (addC ops i) (by omega) (by omega)
        rw [newL_addC] at this
        exact this
    · rw [List.drop_eq_nil_of_le (by omega), List.nil_append]
      exact goF_new _ hs _ _
theorem make_more {base more : List UInt8} {size : Nat} (hs : 1 ≤ size) (hw : base.length % size = 0) : newL (makeL (base ++ more) (signL base size) size) ≤ more.length := by
  have := more_new (base := base) (more := more) hs hw base.length 0 [] (by omega) (by omega)
  rw [Nat.zero_mul, List.drop_zero] at this
  unfold makeL
  simpa [newL] using this
theorem addC_le (O : List Stp) (i : Int) : (addC O i).length ≤ O.length + 1 := by
  unfold addC
  cases h : O.getLast? with
  | none => simp
  | some x =>
    simp only
    split
    · simp <;> omega
    · simp
theorem addT_le (O : List Stp) (c : UInt8) : (addT O c).length ≤ O.length + 1 := by
  unfold addT
  cases h : O.getLast? with
  | none => simp
  | some x =>
    simp only
    split
    · simp <;> omega
    · simp
theorem goL_len (bs : List Bk) {size : Nat} (hs : 1 ≤ size) : ∀ (n : Nat) (d : List UInt8) (ops : List Stp), d.length ≤ n → (goL bs size n d ops).length ≤ ops.length + d.length
  | 0, d, ops, _ => by unfold goL; omega
  | n + 1, d, ops, h => by
    cases d with
    | nil => unfold goL; simp
    | cons c r =>
      rw [List.length_cons] at h
      unfold goL
      simp only
      cases findB bs (tellB ((c :: r).take size)) with
      | some i =>
        simp only
        have hl : ((c :: r).drop size).length ≤ r.length := by rw [List.length_drop, List.length_cons]; omega
        have := goL_len bs hs n ((c :: r).drop size) (addC ops i) (by omega)
        have := addC_le ops i
        rw [List.length_cons]
        omega
      | none =>
        simp only
        have := goL_len bs hs n r (addT ops c) (by omega)
        have := addT_le ops c
        rw [List.length_cons]
        omega
theorem makeL_len (d : List UInt8) (bs : List Bk) {size : Nat} (hs : 1 ≤ size) : (makeL d bs size).length ≤ d.length := by
  have := goL_len bs hs d.length d [] (Nat.le_refl _)
  rw [List.length_nil, Nat.zero_add] at this
  exact this
/- the texts that steps make -/
/-- Steps that are right, of so many blocks. -/
def okC (nb : Nat) (x : Stp) : Bool := decide (0 < x.2.1) && decide (x.2.2 = []) && decide (0 ≤ x.1) && decide (x.1 + x.2.1 ≤ nb)
def okT (x : Stp) : Bool := decide (x.2.1 = 0) && decide (x.1 = 0) && decide (x.2.2 ≠ [])
def textL (base : List UInt8) (size : Nat) (x : Stp) : Option (List UInt8) :=
  if okT x then some x.2.2 else if okC (cnt base.length size) x then some ((base.drop (x.1.toNat * size)).take (x.2.1.toNat * size)) else none
/-- The text so far and the rest of the steps: the text or the number of an error. -/
def applyL (base : List UInt8) (size : Nat) : List UInt8 → List Stp → List UInt8 × Int
  | out, [] => (out, 0)
  | out, x :: r =>
    match textL base size x with
    | none => ([], 140)
    | some t => if 65536 < out.length + t.length then ([], 32) else applyL base size (out ++ t) r
theorem weak_snoc0 (x : UInt8) (r : List UInt8) : (weakL (r ++ [0]) : Int) - 65536 * (sumA r % 65536 : Nat) = weakL r ∨ (weakL (r ++ [0]) : Int) - 65536 * (sumA r % 65536 : Nat) + 4294967296 = weakL r := by
  have h1 := sumA_snoc r 0
  have h2 := sumB_snoc r 0
  have e : (0 : UInt8).toNat = 0 := rfl
  unfold weakL
  rw [h1, h2, e]
  omega
end DL
end Go.Proofs.YtmpmmebmhffaeaaDoor
end
section
/- Layer 14: how lists of blocks and of steps lie in memory. -/
namespace Go.Proofs.YtmpmmebmhffaeaaDoor
open Go.RowKit Go.Lib
namespace DM
open OM DL

def txt (l : List UInt8) : Value := .string ⟨l.toArray⟩
theorem txt_data (s : ByteArray) : txt s.data.toList = .string s := rfl
theorem txt_inj {a b : List UInt8} (h : txt a = txt b) : a = b := by
  unfold txt at h
  injection h with h
  injection h with h
  simpa using h
section
variable {α : Type} (p q r : α → Value)
/-- A slice of three cells an element lies there. -/
def Lay3 (W : World) (ao : Option Addr) (L : List α) : Prop := 0 < L.length → ∃ g o, ao = some ⟨g, o, none⟩ ∧ g < W.heap.size ∧ ∀ (i : Nat) (x : α), L[i]? = some x → W.cell? ⟨g, o + i * 3, none⟩ = some (p x) ∧ W.cell? ⟨g, o + i * 3 + 1, none⟩ = some (q x) ∧ W.cell? ⟨g, o + i * 3 + 2, none⟩ = some (r x)
def c3 (L : List α) : List Value := L.flatMap fun x => [p x, q x, r x]
variable {p q r}
theorem Lay3.below {W W' : World} {ao : Option Addr} {L : List α} (h : Lay3 p q r W ao L) (hb : Below W.heap.size W W') : Lay3 p q r W' ao L := fun h0 => by
  obtain ⟨g, o, e, hlt, hc⟩ := h h0
  exact ⟨g, o, e, Nat.lt_of_lt_of_le hlt hb.size, fun i x hi => ⟨(hb.cell (p := ⟨g, o + i * 3, none⟩) hlt).trans (hc i x hi).1, (hb.cell (p := ⟨g, o + i * 3 + 1, none⟩) hlt).trans (hc i x hi).2.1, (hb.cell (p := ⟨g, o + i * 3 + 2, none⟩) hlt).trans (hc i x hi).2.2⟩⟩
theorem Lay3.nil (W : World) (ao : Option Addr) : Lay3 p q r W ao [] := fun h => absurd h (by simp)
theorem c3_len (L : List α) : (c3 p q r L).length = L.length * 3 := by
  induction L with
  | nil => rfl
  | cons x L ih =>
    show ([p x, q x, r x] ++ c3 p q r L).length = (L.length + 1) * 3
    rw [List.length_append, ih]
    show 3 + _ = _
    omega
theorem c3_snoc (L : List α) (x : α) : c3 p q r (L ++ [x]) = c3 p q r L ++ [p x, q x, r x] := by
  unfold c3
  rw [List.flatMap_append, List.flatMap_singleton]
theorem c3_app (L M : List α) : c3 p q r (L ++ M) = c3 p q r L ++ c3 p q r M := by
  unfold c3
  rw [List.flatMap_append]
theorem c3_at : ∀ (L : List α) (i : Nat) (x : α), L[i]? = some x → (c3 p q r L)[i * 3]? = some (p x) ∧ (c3 p q r L)[i * 3 + 1]? = some (q x) ∧ (c3 p q r L)[i * 3 + 2]? = some (r x)
  | [], i, x, h => by simp at h
  | y :: L, 0, x, h => by
    simp at h
    subst h
    exact ⟨rfl, rfl, rfl⟩
  | y :: L, i + 1, x, h => by
    rw [List.getElem?_cons_succ] at h
    have ih := c3_at L i x h
    have e : ∀ j, (c3 p q r (y :: L))[(i + 1) * 3 + j]? = (c3 p q r L)[i * 3 + j]? := fun j => by
      show ([p y, q y, r y] ++ c3 p q r L)[_]? = _
      rw [List.getElem?_append_right (by show 3 ≤ _; omega)]
      congr 1
      show _ - 3 = _
      omega
    exact ⟨(e 0).trans ih.1, (e 1).trans ih.2.1, (e 2).trans ih.2.2⟩
theorem lay3_own {w : World} {B : Nat} {e : TypeId} {v : Value} {L : List α} (h : w.ownsRow B e 3 v L.length (c3 p q r L)) : ∃ ao c, v = .slice ao L.length c ∧ Lay3 p q r w ao L := by
  obtain ⟨ao, c, rfl, hx⟩ := owns_view h
  refine ⟨ao, c, rfl, fun h0 => ?_⟩
  obtain ⟨g, rfl, hg, _, hc⟩ := hx h0
  refine ⟨g, 0, rfl, hg, fun i x hi => ?_⟩
  have hkl := (List.getElem?_eq_some_iff.1 hi).1
  obtain ⟨a, b, c⟩ := c3_at (p := p) (q := q) (r := r) L i x hi
  rw [Nat.zero_add]
  exact ⟨(hc _ (by omega)).trans a, (hc _ (by omega)).trans b, (hc _ (by omega)).trans c⟩
end
def bW (b : Bk) : Value := .int .u32 (b.1 : Nat)
def bS (b : Bk) : Value := txt b.2.1
def bN (b : Bk) : Value := .int .i64 b.2.2
def oF (x : Stp) : Value := .int .i64 x.1
def oC (x : Stp) : Value := .int .i64 x.2.1
def oT (x : Stp) : Value := txt x.2.2
abbrev LayB (W : World) (ao : Option Addr) (bs : List Bk) : Prop := Lay3 bW bS bN W ao bs
abbrev LayO (W : World) (ao : Option Addr) (ops : List Stp) : Prop := Lay3 oF oC oT W ao ops
abbrev blkC (bs : List Bk) : List Value := c3 bW bS bN bs
abbrev opC (ops : List Stp) : List Value := c3 oF oC oT ops
def bkV (b : Bk) : Value := .agg #[.int .u32 (b.1 : Nat), .string ⟨b.2.1.toArray⟩, .int .i64 b.2.2]
def opV (x : Stp) : Value := .agg #[.int .i64 x.1, .int .i64 x.2.1, .string ⟨x.2.2.toArray⟩]
theorem bkV_inj {a b : Bk} (h : bkV a = bkV b) : a = b := by
  obtain ⟨a1, a2, a3⟩ := a
  obtain ⟨b1, b2, b3⟩ := b
  unfold bkV at h
  simp only at h
  injection h with h
  injection h with h
  injection h with h0 h
  injection h with h1 h
  injection h with h2 h
  injection h0 with _ h0
  injection h1 with h1
  injection h2 with _ h2
  have e1 : a2 = b2 := by
    injection h1 with h1
    simpa using h1
  have e0 : a1 = b1 := Int.ofNat.inj h0
  rw [e0, e1, h2]
theorem size_data (s : ByteArray) : s.size = s.data.toList.length := Lib.size_eq s
theorem take_of3 (s : ByteArray) (f u : Nat) : (s.extract f u).data.toList = (s.data.toList.drop f).take (u - f) := Lib.extract_data s f u
theorem cell_row {W : World} {B i : Nat} {cs : Array Value} {t : TypeId} {fz : Nat × Nat} (h : W.heap[B]? = some (.cells cs t fz)) : W.cell? ⟨B, i, none⟩ = cs[i]? := cell_of_row W B i cs t fz h
end DM
end Go.Proofs.YtmpmmebmhffaeaaDoor
end
section
/- A map whose elements stand for themselves: it says what a function says. (General: no program's text.) -/
namespace Go.Proofs.YtmpmmebmhffaeaaDoor
open Go.RowKit Go.Lib Go.Maps Go.WideShapes
namespace DM
variable {P : Program} {k : TypeId}

/-- An element stands for itself. -/
def Rh (v : Value) : Option (DataW Value × List MemPlace) := some (.held v, [])
/-- The map b says what f says. -/
def MapF (P : Program) (k : TypeId) (W : World) (b n : Nat) (f : Value → Option Value) : Prop :=
  ∃ D, W.ownsMap P k Rh b n D ∧ Tidy D ∧ ∀ x kl, keyOf P k x = some kl → (∀ z, D.atKey kl (.held z) = .held ((f x).getD z)) ∧ has D kl = (f x).isSome
theorem MapF.made (w : World) : MapF P k (w.alloc (.map #[] 0)) w.heap.size 0 (fun _ => none) :=
  ⟨.map [], World.ownsMap_made _ _ _ _, tidy_empty, fun x kl _ => ⟨fun z => rfl, by simp [Maps.has]⟩⟩
theorem MapF.lt {W : World} {b n : Nat} {f : Value → Option Value} (h : MapF P k W b n f) : b < W.heap.size := by
  obtain ⟨D, h1, _⟩ := h
  exact h1.lt
theorem MapF.row {W W' : World} {b n : Nat} {f : Value → Option Value} (h : MapF P k W b n f) (hr : W'.heap[b]? = W.heap[b]?) : MapF P k W' b n f := by
  obtain ⟨D, ⟨es, clock, hm, Ft, hs, hD⟩, h2, h3⟩ := h
  exact ⟨D, ⟨es, clock, hr.trans hm, Ft, hs, hD⟩, h2, h3⟩
theorem MapF.kind {W : World} {b n : Nat} {f : Value → Option Value} (h : MapF P k W b n f) : ∃ es c, W.heap[b]? = some (.map es c) := by
  obtain ⟨D, ⟨es, clock, hm, _⟩, _⟩ := h
  exact ⟨es, clock, hm⟩
theorem MapF.below {W W' : World} {b n : Nat} {f : Value → Option Value} (h : MapF P k W b n f) (hb : Below W.heap.size W W') : MapF P k W' b n f := h.row (hb.block b h.lt)
theorem MapF.out {S : Nat → Prop} {W W' : World} {b n : Nat} {f : Value → Option Value} (h : MapF P k W b n f) (hb : FP.Out S W W') (hn : ¬ S b) : MapF P k W' b n f := h.row (hb.block b h.lt hn)
theorem MapF.mono {W : World} {b n m : Nat} {f : Value → Option Value} (h : MapF P k W b n f) (hm : n ≤ m) : MapF P k W b m f := by
  obtain ⟨D, h1, h2, h3⟩ := h
  exact ⟨D, h1.mono hm, h2, h3⟩
theorem MapF.alloc {W : World} {b n : Nat} {f : Value → Option Value} (h : MapF P k W b n f) (o : Obj) : MapF P k (W.alloc o) b n f := h.below ((Below.refl _ _).alloc (Nat.le_refl _) o)
theorem MapF.set {W : World} {b n : Nat} {f : Value → Option Value} (h : MapF P k W b n f) {a : Addr} (ha : b ≠ a.block) (u : Value) : MapF P k (W.setCell a u) b n f := h.row (Below.heap_setCell _ _ _ _ ha)
/-- 'm[k]'. -/
theorem MapF.look {W : World} {b n : Nat} {f : Value → Option Value} (h : MapF P k W b n f) (K : Keyed P k) {t e : TypeId} (ht : P.underlying t = some (.map k e)) {z : Value} (hz : (zeroValue e).run P W = .ok z W) {x : Value} {kl : Lit} (hx : keyOf P k x = some kl) :
    (Instr.lookup t (.map (some b)) x false).run P W = .ok ((f x).getD z) W := by
  obtain ⟨D, h1, _, h3⟩ := h
  obtain ⟨v, ps, hr, hv⟩ := h1.lookup (zd := .held z) (zp := []) K ht hz rfl hx
  unfold Rh at hv
  injection hv with hv
  injection hv with hv _
  rw [(h3 x kl hx).1 z] at hv
  injection hv with hv
  rw [← hv]
  exact hr
/-- 'v, ok := m[k]'. -/
theorem MapF.look_ok {W : World} {b n : Nat} {f : Value → Option Value} (h : MapF P k W b n f) (K : Keyed P k) {t e : TypeId} (ht : P.underlying t = some (.map k e)) {z : Value} (hz : (zeroValue e).run P W = .ok z W) {x : Value} {kl : Lit} (hx : keyOf P k x = some kl) :
    (Instr.lookup t (.map (some b)) x true).run P W = .ok (.tuple #[(f x).getD z, .bool (f x).isSome]) W := by
  obtain ⟨D, h1, _, h3⟩ := h
  obtain ⟨v, ps, hr, hv⟩ := h1.look_ok (zd := .held z) (zp := []) K ht hz rfl hx
  unfold Rh at hv
  injection hv with hv
  injection hv with hv _
  rw [(h3 x kl hx).1 z] at hv
  injection hv with hv
  rw [hr, hv, (h3 x kl hx).2]
/-- 'm[k] = v'. -/
theorem MapF.put {W : World} {b n : Nat} {f : Value → Option Value} (h : MapF P k W b n f) (K : Keyed P k) {t e : TypeId} (ht : P.underlying t = some (.map k e)) (hn : n < maxLen) {x : Value} {kl : Lit} (hx : keyOf P k x = some kl) (v : Value) {f' : Value → Option Value} (h1 : f' x = some v) (h2 : ∀ q, q ≠ x → f' q = f q) :
    ∃ W', (Instr.mapUpdate t (.map (some b)) x v).run P W = .ok () W' ∧ MapF P k W' b (n + 1) f' ∧ W.grownBy W' (some b) := by
  obtain ⟨D, g1, g2, g3⟩ := h
  obtain ⟨W', hr, hm, hg⟩ := g1.update (d := .held v) (ps := []) K ht hn hx rfl
  refine ⟨W', hr, ⟨_, hm, hm.tidy K, fun q ql hq => ?_⟩, hg⟩
  by_cases e : q = x
  · subst e
    rw [hx] at hq
    injection hq with hq
    subst hq
    rw [h1]
    exact ⟨fun z => atKey_put_same g2.isMap (K.key hx) _ _, has_put_same g2.isMap (K.key hx) _⟩
  · have hne : ql ≠ kl := fun e2 => e (K.inj (by rw [hq, e2]) hx)
    rw [h2 q e]
    exact ⟨fun z => by rw [atKey_put_other hne]; exact (g3 q ql hq).1 z, by rw [has_put_other hne]; exact (g3 q ql hq).2⟩
/-- 'm[k]' at the operation. -/
theorem wp_put {w w2 : World} {ops : Array Oper} {rest : List Oper} {o : Oper} {a : Act} {Q : Exit → Act → World → Prop}
    (hg : o.guard = none) (m x v : Operand) (t : TypeId) (hop : o.op = Op.mapUpdate t m x v) (M key val : Value)
    (hm : a.eval m = M) (hx : a.eval x = key) (hv : a.eval v = val) (hrun : (Instr.mapUpdate t M key val).run P w = .ok () w2)
    (hK : wpList P ops Q rest (a.put o.dst undef) w2) : wpList P ops Q (o :: rest) a w := by
  refine wpList_plain hg fun K' hK' => ?_
  unfold Oper.wp
  simp [execOp, hop, hm, hx, hv, hrun, Result.andThen]
  exact hK' _ _ hK
end DM
end Go.Proofs.YtmpmmebmhffaeaaDoor
end
