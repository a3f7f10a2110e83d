/- Layer 16: how a sender's calls lie in memory. -/
import Derived.Test.YtdkfoakmjeealaaQMxPlain
import Derived.Test.YtdkfoakmjeealaaQOwn
import Derived.Test.YtdkfoakmjeealaaQFoot
import Derived.Maps.AppendAt
import Derived.WalkKit
import Derived.WalkMore
import Derived.IntWalk
import Derived.Below
import Derived.OwnWalk
import Derived.Lib.Hide
import Derived.Lib.Strings
import Derived.Lib.QuietBelow
import Derived.BigRegion
import Derived.BigQuiet
import Derived.Deep.RegionWith
set_option linter.all false
set_option maxRecDepth 100000
set_option maxHeartbeats 25600000
namespace Go.Proofs.Ytdkfoakmjeealaa
open Go.RowKit Go.Lib Go.BigFrame
namespace MX
open OM FP

/- rows of k cells -/
section
variable {α : Type} {f : α → List Value} {k : Nat}
theorem rows_len (hk : ∀ x, (f x).length = k) : ∀ L : List α, (L.flatMap f).length = L.length * k
  | [] => by simp
  | x :: L => by
    rw [List.flatMap_cons, List.length_append, hk, rows_len hk L, List.length_cons, Nat.succ_mul]
    omega
theorem rows_snoc (L : List α) (x : α) : (L ++ [x]).flatMap f = L.flatMap f ++ f x := by rw [List.flatMap_append, List.flatMap_singleton]
theorem rows_mid {L : List α} {i : Nat} {x : α} (h : L[i]? = some x) : L.flatMap f = (L.take i).flatMap f ++ f x ++ (L.drop (i + 1)).flatMap f := by
  have hi := (List.getElem?_eq_some_iff.1 h).1
  have e : L = L.take i ++ x :: L.drop (i + 1) := by
    rw [← (List.getElem?_eq_some_iff.1 h).2, List.getElem_cons_drop, List.take_append_drop]
  conv => lhs; rw [e]
  rw [List.flatMap_append, List.flatMap_cons, List.append_assoc]
theorem rows_put {L : List α} {i : Nat} (x : α) (h : i < L.length) : (L.set i x).flatMap f = (L.take i).flatMap f ++ f x ++ (L.drop (i + 1)).flatMap f := by
  rw [List.set_eq_take_append_cons_drop, if_pos h, List.flatMap_append, List.flatMap_cons, List.append_assoc]
theorem set_mid {A r B : List Value} {n j : Nat} (hA : A.length = n) (hj : j < r.length) (u : Value) : (A ++ r ++ B).set (n + j) u = A ++ r.set j u ++ B := by
  rw [List.append_assoc, List.set_append_right _ _ (by omega), show n + j - A.length = j by omega, List.set_append_left _ _ hj, List.append_assoc]
theorem rows_at (hk : ∀ x, (f x).length = k) {L : List α} {i j : Nat} {x : α} (h : L[i]? = some x) (hj : j < k) : (L.flatMap f)[i * k + j]? = (f x)[j]? := by
  have hi := (List.getElem?_eq_some_iff.1 h).1
  have hA : ((L.take i).flatMap f).length = i * k := by rw [rows_len hk, List.length_take, Nat.min_eq_left (by omega)]
  rw [rows_mid h, List.append_assoc, List.getElem?_append_right (by omega), hA, show i * k + j - i * k = j by omega, List.getElem?_append_left (by rw [hk]; exact hj)]
theorem rows_one (h1 : ∀ x, ∀ u ∈ f x, u.oneCell' = true) (L : List α) : ∀ u ∈ L.flatMap f, u.oneCell' = true := by
  intro u hu
  obtain ⟨x, _, hx⟩ := List.mem_flatMap.1 hu
  exact h1 x u hx
end
theorem own_same {W W' : World} {b e size : Nat} {v : Value} {n : Nat} {xs : List Value} (h : W.ownsRow b e size v n xs) (hb : ∀ g, v.ownBlock = some g → W'.heap[g]? = W.heap[g]?) : W'.ownsRow b e size v n xs := by
  refine ⟨h.1, ?_⟩
  rcases h.2 with hn | ⟨g, cap, cur, rfl, hb', hgg, rest⟩
  · exact .inl hn
  · exact .inr ⟨g, cap, cur, rfl, hb', (hb g rfl).trans hgg, rest⟩
theorem own_ne {W : World} {b e size : Nat} {v : Value} {n : Nat} {xs : List Value} (h : W.ownsRow b e size v n xs) {B : Nat} {cs : Array Value} {T : TypeId} {fz : Nat × Nat} (hB : W.heap[B]? = some (.cells cs T fz)) (hT : T ≠ e) : v.ownBlock ≠ some B := by
  intro hv
  obtain ⟨c, fz2, h2⟩ := owns_kind h B hv
  rw [hB] at h2
  injection h2 with h2
  injection h2 with _ h2 _
  exact hT h2
theorem heap_set_ne {w : World} {b k j : Nat} {v : Value} (h : k ≠ b) : (w.setCell ⟨b, j, none⟩ v).heap[k]? = w.heap[k]? := Below.heap_setCell w ⟨b, j, none⟩ v k h
theorem row_set {W : World} {B j : Nat} {cs : Array Value} {T : TypeId} (h : W.heap[B]? = some (.cells cs T (0, 0))) (v : Value) : (W.setCell ⟨B, j, none⟩ v).heap[B]? = some (.cells (cs.setIfInBounds j v) T (0, 0)) := by
  simp [World.setCell, Array.getElem?_modify, h]
theorem row_cell {W : World} {B j : Nat} {cs : Array Value} {T : TypeId} (h : W.heap[B]? = some (.cells cs T (0, 0))) : W.cell? ⟨B, j, none⟩ = cs[j]? := by
  simp [World.cell?, h]
theorem row_frz {W : World} {B : Nat} {cs : Array Value} {T : TypeId} (h : W.heap[B]? = some (.cells cs T (0, 0))) (j : Nat) : W.frozen? ⟨B, j, none⟩ = false := Lib.frozen_of_heap h j
theorem own_parts {w : World} {B t size n : Nat} {v : Value} {xs : List Value} (h : w.ownsRow B t size v n xs) (h0 : 0 < n) : ∃ g c cur, v = .slice (some ⟨g, 0, none⟩) n c ∧ w.heap[g]? = some (.cells cur t (0, 0)) ∧ cur.toList.take xs.length = xs ∧ xs.length = n * size ∧ n ≤ maxLen := by
  have hm := owns_len h
  rcases h.2 with ⟨_, h1⟩ | ⟨g, c, cur, h1, hb, h2, h3, h4, h5, h6⟩
  · omega
  · exact ⟨g, c, cur, h1, h2, by rw [h.1]; exact h6, h.1, hm⟩
theorem cur_at {cur : Array Value} {xs : List Value} (h : cur.toList.take xs.length = xs) {j : Nat} {u : Value} (hu : xs[j]? = some u) : cur[j]? = some u := by
  have hj := (List.getElem?_eq_some_iff.1 hu).1
  rw [← h, List.getElem?_take_of_lt hj, Array.getElem?_toList] at hu
  exact hu
/-- The row is another one now, in the same block. -/
theorem own_turn {w w' : World} {B t size n g c : Nat} {xs ys : List Value} {cur cur' : Array Value} (h : w.ownsRow B t size (.slice (some ⟨g, 0, none⟩) n c) n xs) (hr : w.heap[g]? = some (.cells cur t (0, 0))) (hr' : w'.heap[g]? = some (.cells cur' t (0, 0))) (hs : cur'.size = cur.size) (hl : ys.length = xs.length) (hx : cur'.toList.take xs.length = ys) : w'.ownsRow B t size (.slice (some ⟨g, 0, none⟩) n c) n ys := by
  refine ⟨hl.trans h.1, ?_⟩
  rcases h.2 with ⟨h1, _⟩ | ⟨g', c', cur2, h1, hb, h2, h3, h4, h5, h6⟩
  · cases h1
  · injection h1 with e1 _ e3
    injection e1 with e1
    injection e1 with e1 _ _
    subst e1 e3
    rw [hr] at h2
    injection h2 with h2
    injection h2 with h2 _ _
    subst h2
    exact .inr ⟨g, c, cur', rfl, hb, hr', h3, h4, by rw [hs]; exact h5, by rw [← h.1]; exact hx⟩
/- a sender's calls -/
def txt (l : List UInt8) : Value := .string ⟨l.toArray⟩
theorem txt_data (s : ByteArray) : txt s.data.toList = .string s := rfl
abbrev ptr (b : Nat) : Value := .pointer (some ⟨b, 0, none⟩)
def goC (c : Cl) : List Value := [.int .i64 (c.sent : Nat), .bool c.ended, txt (c.text.drop c.sent), .int .i64 (c.acked : Nat)]
theorem goC_len (c : Cl) : (goC c).length = 4 := rfl
theorem goC_one (c : Cl) : ∀ u ∈ goC c, u.oneCell' = true := fun u hu => by
  unfold goC at hu
  simp at hu
  rcases hu with rfl | rfl | rfl | rfl <;> rfl
def gosC (cs : List Cl) : List Value := cs.flatMap goC
structure OutA (b : Nat) (W S : Int) (cs : List Cl) (v : Value) (w : World) : Prop where
  row : w.heap[b]? = some (.cells #[v, .int .i64 W, .int .i64 S] 75 (0, 0))
  own : w.ownsRow 0 79 4 v cs.length (gosC cs)
/-- The blocks that a sender or a receiver's list lies in. -/
def mo (b : Nat) (v : Value) (k : Nat) : Prop := k = b ∨ v.ownBlock = some k
theorem OutA.lt {b : Nat} {W S : Int} {cs : List Cl} {v : Value} {w : World} (h : OutA b W S cs v w) : ∀ k, mo b v k → k < w.heap.size := fun k hk => by
  rcases hk with rfl | hk
  · exact (Array.getElem?_eq_some_iff.1 h.row).1
  · exact (h.own.lt k hk).2
theorem OutA.keep {b : Nat} {W S : Int} {cs : List Cl} {v : Value} {w w' : World} {N : Nat → Prop} (h : OutA b W S cs v w) (ho : Out N w w') (hN : ∀ k, mo b v k → ¬ N k) : OutA b W S cs v w' :=
  ⟨ho.row h.row (hN b (.inl rfl)), own_same h.own (fun g hg => ho.block g (h.lt g (.inr hg)) (hN g (.inr hg)))⟩
theorem OutA.below {b : Nat} {W S : Int} {cs : List Cl} {v : Value} {w w' : World} (h : OutA b W S cs v w) (hb : Below w.heap.size w w') : OutA b W S cs v w' :=
  h.keep (Out.of_below hb) (fun k hk hk2 => by have := h.lt k hk; omega)
theorem OutA.ne {b : Nat} {W S : Int} {cs : List Cl} {v : Value} {w : World} (h : OutA b W S cs v w) : v.ownBlock ≠ some b := own_ne h.own h.row (by decide)
/-- Where a call lies. -/
theorem OutA.at {b : Nat} {W S : Int} {cs : List Cl} {v : Value} {w : World} (h : OutA b W S cs v w) {i : Nat} {c : Cl} (hc : cs[i]? = some c) :
    ∃ g k cur, v = .slice (some ⟨g, 0, none⟩) cs.length k ∧ w.heap[g]? = some (.cells cur 79 (0, 0)) ∧ cur.toList.take (gosC cs).length = gosC cs ∧ cs.length ≤ maxLen ∧ g ≠ b ∧
      cur[i * 4]? = some (.int .i64 (c.sent : Nat)) ∧ cur[i * 4 + 1]? = some (.bool c.ended) ∧ cur[i * 4 + 2]? = some (txt (c.text.drop c.sent)) ∧ cur[i * 4 + 3]? = some (.int .i64 (c.acked : Nat)) := by
  have hi := (List.getElem?_eq_some_iff.1 hc).1
  obtain ⟨g, k, cur, rfl, hr, ht, hl, hm⟩ := own_parts h.own (by omega)
  have q := fun j (hj : j < 4) => rows_at (f := goC) goC_len hc hj
  refine ⟨g, k, cur, rfl, hr, ht, hm, fun e => h.ne (by rw [← e]; rfl), ?_, ?_, ?_, ?_⟩
  · exact cur_at ht ((q 0 (by decide)).trans rfl)
  · exact cur_at ht ((q 1 (by decide)).trans rfl)
  · exact cur_at ht ((q 2 (by decide)).trans rfl)
  · exact cur_at ht ((q 3 (by decide)).trans rfl)
theorem infoG : (Try.prog.info? 79).map (fun i => (i.zero, i.size, i.bytes)) = some (some (.agg #[.int .i64 0, .bool false, .string ByteArray.empty, .int .i64 0]), 4, 40) := by kernel_rfl
theorem info_parts {P : Program} {t : TypeId} {z : Option Value} {a b : Nat} (h : (P.info? t).map (fun i => (i.zero, i.size, i.bytes)) = some (z, a, b)) : ∃ i, P.info? t = some i ∧ i.zero = z ∧ i.size = a ∧ i.bytes = b := by
  obtain ⟨i, hi, e⟩ := Option.map_eq_some_iff.1 h
  simp only [Prod.mk.injEq] at e
  exact ⟨i, hi, e.1, e.2.1, e.2.2⟩
end MX
end Go.Proofs.Ytdkfoakmjeealaa
