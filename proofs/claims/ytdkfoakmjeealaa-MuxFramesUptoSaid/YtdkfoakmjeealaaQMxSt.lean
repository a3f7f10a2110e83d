/- Layer 16: a sender and a receiver beside one another, and acks that come late. -/
import Derived.Test.YtdkfoakmjeealaaQMxAw
import Derived.Test.YtdkfoakmjeealaaQMxJ
set_option linter.all false
set_option maxRecDepth 100000
set_option maxHeartbeats 25600000
namespace Go.Proofs.Ytdkfoakmjeealaa
open Go.RowKit Go.Lib Go.BigFrame
namespace MX
open OM FP

theorem OutA.ty {b : Nat} {W S : Int} {cs : List Cl} {v : Value} {w : World} (h : OutA b W S cs v w) : ∀ j, mo b v j → ∃ c t fz, w.heap[j]? = some (.cells c t fz) ∧ (t = 75 ∨ t = 79) := fun j hj => by
  rcases hj with rfl | hj
  · exact ⟨_, _, _, h.row, .inl rfl⟩
  · obtain ⟨c, fz, h1⟩ := owns_kind h.own j hj
    exact ⟨_, _, _, h1, .inr rfl⟩
theorem InA.ty {b : Nat} {ps : List (Rc × Value)} {ds : List Int} {v d : Value} {w : World} (h : InA b ps ds v d w) : ∀ j, mi b ps v d j → ∃ c t fz, w.heap[j]? = some (.cells c t fz) ∧ (t = 87 ∨ t = 95 ∨ t = 3 ∨ t = 5) := fun j hj => by
  rcases hj with rfl | hj | hj | ⟨p, hp, hj⟩
  · exact ⟨_, _, _, h.row, .inl rfl⟩
  · obtain ⟨c, fz, h1⟩ := owns_kind h.own j hj
    exact ⟨_, _, _, h1, .inr (.inl rfl)⟩
  · obtain ⟨c, fz, h1⟩ := owns_kind h.don j hj
    exact ⟨_, _, _, h1, .inr (.inr (.inl rfl))⟩
  · obtain ⟨c, fz, h1⟩ := owns_kind (h.tx p hp) j hj
    exact ⟨_, _, _, h1, .inr (.inr (.inr rfl))⟩
theorem not_mo {b : Nat} {W S : Int} {cs : List Cl} {v : Value} {w : World} (h : OutA b W S cs v w) {F : Nat} {c : Array Value} {t : TypeId} {fz : Nat × Nat} (hF : w.heap[F]? = some (.cells c t fz)) (h1 : t ≠ 75) (h2 : t ≠ 79) : ¬ mo b v F := fun hm => by
  obtain ⟨c2, t2, fz2, h3, h4⟩ := h.ty F hm
  rw [hF] at h3
  injection h3 with h3
  injection h3 with _ h3 _
  rcases h4 with h4 | h4
  · exact h1 (h3.trans h4)
  · exact h2 (h3.trans h4)
theorem not_mi {b : Nat} {ps : List (Rc × Value)} {ds : List Int} {v d : Value} {w : World} (h : InA b ps ds v d w) {F : Nat} {c : Array Value} {t : TypeId} {fz : Nat × Nat} (hF : w.heap[F]? = some (.cells c t fz)) (h1 : t ≠ 87) (h2 : t ≠ 95) (h3 : t ≠ 3) (h4 : t ≠ 5) : ¬ mi b ps v d F := fun hm => by
  obtain ⟨c2, t2, fz2, h5, h6⟩ := h.ty F hm
  rw [hF] at h5
  injection h5 with h5
  injection h5 with _ h5 _
  rcases h6 with h6 | h6 | h6 | h6
  · exact h1 (h5.trans h6)
  · exact h2 (h5.trans h6)
  · exact h3 (h5.trans h6)
  · exact h4 (h5.trans h6)
/-- Both in one world, and all that they lie in is newer than w. -/
structure St (w : World) (b bi : Nat) (W S : Int) (cs : List Cl) (v : Value) (ps : List (Rc × Value)) (ds : List Int) (vi d : Value) (wr : World) : Prop where
  o : OutA b W S cs v wr
  i : InA bi ps ds vi d wr
  l1 : ∀ k, mo b v k → w.heap.size ≤ k
  l2 : ∀ k, mi bi ps vi d k → w.heap.size ≤ k
  bel : Below w.heap.size w wr
theorem St.below {w : World} {b bi : Nat} {W S : Int} {cs : List Cl} {v : Value} {ps : List (Rc × Value)} {ds : List Int} {vi d : Value} {wr wr' : World} (h : St w b bi W S cs v ps ds vi d wr) (hb : Below wr.heap.size wr wr') : St w b bi W S cs v ps ds vi d wr' :=
  ⟨h.o.below hb, h.i.below hb, h.l1, h.l2, h.bel.trans (hb.mono h.bel.size)⟩
theorem St.left {w : World} {b bi : Nat} {W S : Int} {cs cs' : List Cl} {v : Value} {ps : List (Rc × Value)} {ds : List Int} {vi d : Value} {wr wr' : World} (h : St w b bi W S cs v ps ds vi d wr) (ho : OutA b W S cs' v wr') (hO : Out (mo b v) wr wr') : St w b bi W S cs' v ps ds vi d wr' :=
  ⟨ho, h.i.keep hO (fun k hk hm => sep h.o h.i k hm hk), h.l1, h.l2, h.bel.trans (hO.below (fun k hk _ hm => by have := h.l1 k hm; omega) h.bel.size)⟩
theorem St.right {w : World} {b bi : Nat} {W S : Int} {cs : List Cl} {v : Value} {ps : List (Rc × Value)} {ds : List Int} {vi d : Value} {f : Fr} {r0 : Rc} {wr wr' : World} (h : St w b bi W S cs v ps ds vi d wr) (ha : InAft bi ps ds vi d f r0 wr wr') :
    ∃ p t' d', ps[f.call.toNat]? = some p ∧ p.1 = r0 ∧ St w b bi W S cs v (ps.set f.call.toNat (onR r0 f, t')) (if f.last then ds ++ [f.call] else ds) vi d' wr' ∧ Out (mi bi ps vi d) wr wr' := by
  obtain ⟨p, t', d', h1, h2, h3, h4, h5⟩ := ha
  refine ⟨p, t', d', h1, h2, ⟨h.o.keep h4 (sep h.o h.i), h3, h.l1, fun k hk => ?_, h.bel.trans (h4.below (fun k hk _ hm => by have := h.l2 k hm; omega) h.bel.size)⟩, h4⟩
  rcases h5 k hk with h6 | h6
  · exact h.l2 k h6
  · have := h.bel.size
    omega
/- acks -/
def owC (a : Nat × Nat) : List Value := [.int .i64 (a.1 : Nat), .int .i64 (a.2 : Nat)]
theorem owC_len (a : Nat × Nat) : (owC a).length = 2 := rfl
theorem owC_one (a : Nat × Nat) : ∀ u ∈ owC a, u.oneCell' = true := fun u hu => by
  unfold owC at hu
  simp at hu
  rcases hu with rfl | rfl <;> rfl
def AckA (w : World) (s : Value) (acks : List (Nat × Nat)) (wr : World) : Prop := wr.ownsRow w.heap.size 69 2 s acks.length (acks.flatMap owC)
theorem AckA.below {w : World} {s : Value} {acks : List (Nat × Nat)} {wr wr' : World} (h : AckA w s acks wr) (hb : Below wr.heap.size wr wr') : AckA w s acks wr' := owns_below h hb
theorem AckA.left {w : World} {s : Value} {acks : List (Nat × Nat)} {wr wr' : World} {b : Nat} {W S : Int} {cs : List Cl} {v : Value} (h : AckA w s acks wr) (ho : OutA b W S cs v wr) (hO : Out (mo b v) wr wr') : AckA w s acks wr' :=
  hO.owns h (fun g hg => by
    obtain ⟨c, fz, h1⟩ := owns_kind h g hg
    exact not_mo ho h1 (by decide) (by decide))
theorem AckA.right {w : World} {s : Value} {acks : List (Nat × Nat)} {wr wr' : World} {b : Nat} {ps : List (Rc × Value)} {ds : List Int} {v d : Value} (h : AckA w s acks wr) (ho : InA b ps ds v d wr) (hO : Out (mi b ps v d) wr wr') : AckA w s acks wr' :=
  hO.owns h (fun g hg => by
    obtain ⟨c, fz, h1⟩ := owns_kind h g hg
    exact not_mi ho h1 (by decide) (by decide) (by decide) (by decide))
theorem infoW : (Try.prog.info? 69).map (fun i => (i.zero, i.size, i.bytes)) = some (some (.agg #[.int .i64 0, .int .i64 0]), 2, 16) := by kernel_rfl
/-- The call of which a frame was just sent. -/
def Hd (W : Int) (i : Nat) (ct : List UInt8) (sn : Nat) (cs : List Cl) : Prop := ∃ c, cs[i]? = some c ∧ c.text = ct ∧ c.sent = sn ∧ c.begun = true ∧ (c.way : Int) ≤ W
theorem Hd.ack {W : Int} {i : Nat} {ct : List UInt8} {sn : Nat} {cs : List Cl} (h : Hd W i ct sn cs) {k n : Nat} {c : Cl} (hc : cs[k]? = some c) (ha : ackOk cs (k : Nat) (n : Nat) = some c) : Hd W i ct sn (cs.set k (ackC c n)) := by
  obtain ⟨x, hx, h1, h2, h3, h4⟩ := h
  have hkl := (List.getElem?_eq_some_iff.1 hc).1
  by_cases hki : k = i
  · subst hki
    rw [hx] at hc
    injection hc with hc
    subst hc
    refine ⟨ackC x n, by rw [List.getElem?_set_self hkl], h1, h2, h3, ?_⟩
    unfold ackOk at ha
    rw [if_pos (by omega)] at ha
    simp only [Int.toNat_natCast, hx] at ha
    split at ha
    · rename_i hh
      show ((x.sent - n : Nat) : Int) ≤ W
      unfold Cl.way at h4
      omega
    · cases ha
  · exact ⟨x, by rw [List.getElem?_set_ne hki]; exact hx, h1, h2, h3, h4⟩
theorem Hd.new {W S : Int} {i : Nat} {cs : List Cl} {c : Cl} (hc : cs[i]? = some c) (hok : c.Ok) (hS : 1 ≤ S) (hw : (c.way : Int) < W) : Hd W i c.text (c.sent + pieceN W S c) (cs.set i (goOn W S c)) := by
  refine ⟨goOn W S c, by rw [List.getElem?_set_self (List.getElem?_eq_some_iff.1 hc).1], rfl, rfl, rfl, ?_⟩
  have h1 := piece_le (W := W) hS hw
  have := hok.a
  show ((c.sent + pieceN W S c - c.acked : Nat) : Int) ≤ W
  unfold Cl.way at h1 hw
  omega
/- arguments -/
def LayT (W : World) (ao : Option Addr) (ls : List (List UInt8)) : Prop :=
  0 < ls.length → ∃ g o, ao = some ⟨g, o, none⟩ ∧ g < W.heap.size ∧ ∀ (k : Nat) (t : List UInt8), ls[k]? = some t → W.cell? ⟨g, o + k, none⟩ = some (txt t)
theorem LayT.below {W W' : World} {B : Nat} {ao : Option Addr} {ls : List (List UInt8)} (h : LayT W ao ls) (hb : Below B W W') (hB : W.heap.size ≤ B) : LayT W' ao ls := fun h0 => by
  obtain ⟨g, o, e, hlt, hc⟩ := h h0
  exact ⟨g, o, e, Nat.lt_of_lt_of_le hlt hb.size, fun k t hk => (hb.cell (p := ⟨g, o + k, none⟩) (show g < B by omega)).trans (hc k t hk)⟩
def LayZ (W : World) (ao : Option Addr) (zs : List Int) : Prop :=
  0 < zs.length → ∃ g o, ao = some ⟨g, o, none⟩ ∧ g < W.heap.size ∧ ∀ (k : Nat) (z : Int), zs[k]? = some z → W.cell? ⟨g, o + k, none⟩ = some (.int .i64 z)
theorem LayZ.below {W W' : World} {B : Nat} {ao : Option Addr} {ls : List Int} (h : LayZ W ao ls) (hb : Below B W W') (hB : W.heap.size ≤ B) : LayZ W' ao ls := fun h0 => by
  obtain ⟨g, o, e, hlt, hc⟩ := h h0
  exact ⟨g, o, e, Nat.lt_of_lt_of_le hlt hb.size, fun k t hk => (hb.cell (p := ⟨g, o + k, none⟩) (show g < B by omega)).trans (hc k t hk)⟩
end MX
end Go.Proofs.Ytdkfoakmjeealaa
