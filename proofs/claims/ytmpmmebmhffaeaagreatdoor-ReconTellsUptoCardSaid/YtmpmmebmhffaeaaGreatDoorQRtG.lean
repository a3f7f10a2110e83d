/- Layer 12: the document's laid: a value's nodes at a path. -/
import Derived.Test.YtmpmmebmhffaeaaGreatDoorQRtI
set_option linter.all false
set_option maxRecDepth 100000
set_option maxHeartbeats 25600000
namespace Go.Proofs.YtmpmmebmhffaeaaGreatDoor
open Go.RowKit Go.Lib Go.Maps Go.BigFrame Go.Sort
namespace RC
open OM TP TM TR TG TW NP

def setP (p : List UInt8) (n : Nd) : Nd := { n with path := if n.path = [] then p else if p = [] then n.path else p ++ 47 :: n.path }
def laidL (v : List Nd) (p : List UInt8) : List Nd := (v.map (setP p)).filter fun n => decide (n.path ≠ [])
theorem laid_step {v : List Nd} {p : List UInt8} {k : Nat} {x : Nd} (hx : v[k]? = some x) : laidL (v.take (k + 1)) p = laidL (v.take k) p ++ (if (setP p x).path = [] then [] else [setP p x]) := by
  unfold laidL
  rw [List.take_add_one, hx, Option.toList_some, List.map_append, List.filter_append]
  congr 1
  by_cases h : (setP p x).path = [] <;> simp [h]
theorem laid_len (v : List Nd) (p : List UInt8) : (laidL v p).length ≤ v.length := by
  unfold laidL
  have := List.length_filter_le (fun n : Nd => decide (n.path ≠ [])) (v.map (setP p))
  rw [List.length_map] at this
  exact this
theorem rowG_below {W W' : World} {B : Nat} {o : Obj} (h : W.heap[B]? = some o) (hb : Below W.heap.size W W') : W'.heap[B]? = some o := (hb.block B (Array.getElem?_eq_some_iff.1 h).1).trans h
theorem cells4r {W : World} {B : Nat} {t : TypeId} {a b c d : Value} (h : W.heap[B]? = some (.cells #[a, b, c, d] t (0, 0))) : W.cell? ⟨B, 0, none⟩ = some a ∧ W.cell? ⟨B, 1, none⟩ = some b ∧ W.cell? ⟨B, 2, none⟩ = some c ∧ W.cell? ⟨B, 3, none⟩ = some d ∧ W.frozen? ⟨B, 0, none⟩ = false := by
  refine ⟨?_, ?_, ?_, ?_, frozen_of_row W B 0 _ _ h⟩ <;> simp [World.cell?, h]
def LaIn (v : List Nd) (p : List UInt8) (w wr : World) (s : Value) (k : Nat) : Prop := wr.ownsRow w.heap.size 40 4 s (laidL (v.take k) p).length (nodesC (laidL (v.take k) p)) ∧ Below w.heap.size w wr
set_option maxRecDepth 100000 in
set_option maxHeartbeats 6400000 in
theorem rlaid_any (ao : Option Addr) (c : Nat) (v : List Nd) (p : List UInt8) (w : World) (h : LayN w ao v) (hl : v.length ≤ 1001) (hs : ∀ n ∈ v, n.path.length ≤ 1048576) (hp : p.length ≤ 1048576) :
    Calls Tryz.prog 34 #[.slice ao v.length c, txt p] w (AtPost (laidL v p) w) := by
  obtain ⟨i0, hi, hz0, hz1, hz2⟩ := info_parts infoN
  have HL := Lib.hid h
  have CB : Hid (∀ W (q : List UInt8), q.length ≤ 1048576 → Calls Tryz.prog 33 #[txt p, txt q] W fun r w' => r = .returned (txt (if p = [] then q else p ++ 47 :: q)) ∧ Below W.heap.size W w') := Lib.hid (fun W q hq => rbelow_any p q W hp hq)
  have HS := Lib.hid hs
  obtain ⟨n, hn⟩ : ∃ n, v.length = n := ⟨_, rfl⟩
  have HN := Lib.hid hn
  rw [hn] at hl ⊢
  have hnz : (n : Int) ≤ 1001 := by omega
  have h0 : Hid (LaIn v p w w (.slice none 0 0) 0) := Lib.hid ⟨World.ownsRow_nil _ _ _ _, Below.refl _ _⟩
  have HLl : Hid (∀ k, k < n → (laidL (v.take k) p).length ≤ 1000) := Lib.hid (fun k hk => by
    have := laid_len (v.take k) p
    rw [List.length_take] at this
    omega)
  unfold txt at CB
  unfold txt
  clear h hn hs hp
  go_enter Tryz.func34, Tryz.ntmps34
  repeat (first | go_skip | go_guarded | go_step | go_upon)
  go_loopw [5, 6] (fun s5 s6 wr => ∃ k : Nat, s6 = .int .i64 k ∧ k ≤ n ∧ LaIn v p w wr s5 k) (fun _ s6 _ => n - (Go.RowKit.intOf s6).toNat)
  case atStart => exact ⟨0, rfl, Nat.zero_le _, h0.out⟩
  case round =>
    obtain ⟨k, rfl, hk, ho, hb⟩ := hrel
    have HO := Lib.hid ho
    have HB := Lib.hid hb
    clear ho hb
    by_cases hlt : k < n
    · have hkz : (k : Int) < n := by omega
      obtain ⟨g, o, rfl, hg, hc⟩ := (HL.out.below HB.out) (by rw [HN.out]; omega)
      obtain ⟨⟨xp, xk, xd, xm⟩, hx⟩ : ∃ x, v[k]? = some x := ⟨v[k]'(by rw [HN.out]; exact hlt), List.getElem?_eq_getElem _⟩
      have hsx := HS.out _ (List.mem_of_getElem? hx)
      obtain ⟨c0, c1, c2, c3⟩ := hc k _ hx
      simp only at c0 c1 c2 c3 hsx
      unfold txt at c0 c2
      have hst := laid_step (p := p) hx
      have HX : Hid (∀ q : List UInt8, (setP p ⟨xp, xk, xd, xm⟩).path = q → setP p ⟨xp, xk, xd, xm⟩ = ⟨q, xk, xd, xm⟩) := Lib.hid (fun q e => by rw [← e]; rfl)
      have HSt := Lib.hid hst
      have hll := HLl.out k hlt
      clear hc hx hst
      -- what stands at the end of a round, once the box holds the path q
      obtain ⟨q, hq⟩ : ∃ q, (setP p ⟨xp, xk, xd, xm⟩).path = q := ⟨_, rfl⟩
      have hX := HX.out q hq
      rw [hq, hX] at HSt
      unfold setP at hq
      simp only at hq
      cases xp with
      | nil =>
        rw [if_pos rfl] at hq
        subst hq
        cases p with
        | nil =>
          have HN1 : Hid (LaIn v [] w (wr.alloc (.cells #[.string ⟨#[]⟩, .int .i64 xk, .string ⟨xd.toArray⟩, .int .i64 xm] 40)) u5 (k + 1)) := Lib.hid ⟨by
            rw [HSt.out, if_pos rfl, List.append_nil]
            exact HO.out.alloc _, HB.out.alloc HB.out.size _⟩
          clear hX
          repeat (first | go_skip | go_guarded | go_step | go_upon)
          exact ⟨⟨k + 1, by go_num, by omega, HN1.out⟩, by simp [Go.RowKit.intOf]; omega⟩
        | cons p0 p =>
          have HSt : Hid (laidL (v.take (k + 1)) (p0 :: p) = laidL (v.take k) (p0 :: p) ++ [⟨p0 :: p, xk, xd, xm⟩]) := Lib.hid (by rw [HSt.out, if_neg (by simp)])
          have HOa := Lib.hid ((HO.out.alloc (.cells #[.string ⟨(p0 :: p).toArray⟩, .int .i64 xk, .string ⟨xd.toArray⟩, .int .i64 xm] 40)).alloc (.cells #[.string ⟨(p0 :: p).toArray⟩, .int .i64 xk, .string ⟨xd.toArray⟩, .int .i64 xm] 40))
          have HBa := Lib.hid ((HB.out.alloc HB.out.size (.cells #[.string ⟨(p0 :: p).toArray⟩, .int .i64 xk, .string ⟨xd.toArray⟩, .int .i64 xm] 40)).alloc (HB.out.alloc HB.out.size (.cells #[.string ⟨(p0 :: p).toArray⟩, .int .i64 xk, .string ⟨xd.toArray⟩, .int .i64 xm] 40)).size (.cells #[.string ⟨(p0 :: p).toArray⟩, .int .i64 xk, .string ⟨xd.toArray⟩, .int .i64 xm] 40))
          have HNew : Hid (∀ (j : Nat) (u : Value), (ndCells ⟨p0 :: p, xk, xd, xm⟩)[j]? = some u → ((wr.alloc (.cells #[.string ⟨(p0 :: p).toArray⟩, .int .i64 xk, .string ⟨xd.toArray⟩, .int .i64 xm] 40)).alloc (.cells #[.string ⟨(p0 :: p).toArray⟩, .int .i64 xk, .string ⟨xd.toArray⟩, .int .i64 xm] 40)).cell? ((⟨wr.heap.size + 1, 0, none⟩ : Addr).add j) = some u) := Lib.hid (four_new _ _ (by simp) ⟨p0 :: p, xk, xd, xm⟩ _ _ rfl rfl _)
          clear hX
          repeat (first
            | (at_builtin; refine wpList_append_own _ rfl _ _ 22 rfl w.heap.size 40 i0 (ndVal zeroN) 4 48 Tryz.underlying22 hi hz0 hz1 hz2 rfl (by decide) _ _ _ rfl HOa.out ⟨wr.heap.size + 1, 0, none⟩ 1 1 (ndCells ⟨p0 :: p, xk, xd, xm⟩) rfl rfl HNew.out (nd_one _) (by have := hll; unfold maxLen; omega) (by omega) (by first | exact HBa.out.size | (simp; have := HBa.out.size; simp at this; omega)) ?_; intro v5 w5 ho5 hg5 _; have HO5 := Lib.hid ho5; have HB5 := Lib.hid (HBa.out.grown hg5 HBa.out.size (fun j hj => (HOa.out.lt j hj).1)); clear ho5 hg5)
            | go_skip | go_guarded | go_step | go_upon)
          refine ⟨⟨k + 1, by go_num, by omega, ?_, HB5.out⟩, by simp [Go.RowKit.intOf]; omega⟩
          rw [HSt.out, List.length_append, List.length_singleton, nodes_snoc]
          exact HO5.out
      | cons x0 xp =>
        rw [if_neg (by simp)] at hq
        have hq0 : q ≠ [] := fun e => by
          rw [e] at hq
          by_cases hp : p = []
          · rw [if_pos hp] at hq; cases hq
          · rw [if_neg hp] at hq; simp at hq
        have HSt : Hid (laidL (v.take (k + 1)) p = laidL (v.take k) p ++ [⟨q, xk, xd, xm⟩]) := Lib.hid (by rw [HSt.out, if_neg hq0])
        have C2 := CB.out (wr.alloc (.cells #[.string ⟨(x0 :: xp).toArray⟩, .int .i64 xk, .string ⟨xd.toArray⟩, .int .i64 xm] 40)) (x0 :: xp) hsx
        rw [hq] at C2
        cases q with
        | nil => exact absurd rfl hq0
        | cons q0 q =>
          have C2 := Lib.hid C2
          have hrow := heap_alloc_new wr (.cells #[.string ⟨(x0 :: xp).toArray⟩, .int .i64 xk, .string ⟨xd.toArray⟩, .int .i64 xm] 40)
          have HRow := Lib.hid hrow
          have HBb := Lib.hid (HB.out.alloc HB.out.size (.cells #[.string ⟨(x0 :: xp).toArray⟩, .int .i64 xk, .string ⟨xd.toArray⟩, .int .i64 xm] 40))
          have HOb := Lib.hid (HO.out.alloc (.cells #[.string ⟨(x0 :: xp).toArray⟩, .int .i64 xk, .string ⟨xd.toArray⟩, .int .i64 xm] 40))
          clear hX hq hq0 hsx hrow
          repeat (first | go_skip | go_guarded | go_step | go_upon)
          refine C2.out.mono ?_
          rintro r w3 ⟨rfl, hb3⟩
          simp only []
          obtain ⟨e0, e1, e2, e3, e4⟩ := cells4r (rowG_below HRow.out hb3)
          have hbw : Below wr.heap.size wr (w3.setCell ⟨wr.heap.size, 0, none⟩ (.string ⟨(q0 :: q).toArray⟩)) := (((Below.refl wr.heap.size wr).alloc (Nat.le_refl _) _).trans (hb3.mono (by simp))).setCell (p := ⟨wr.heap.size, 0, none⟩) (Nat.le_refl _) _
          have HOd := Lib.hid ((owns_below HO.out hbw).alloc (.cells #[.string ⟨(q0 :: q).toArray⟩, .int .i64 xk, .string ⟨xd.toArray⟩, .int .i64 xm] 40))
          have hbc := HB.out.trans (hbw.mono HB.out.size)
          have HBd := Lib.hid (hbc.alloc hbc.size (.cells #[.string ⟨(q0 :: q).toArray⟩, .int .i64 xk, .string ⟨xd.toArray⟩, .int .i64 xm] 40))
          have HNe2 : Hid (∀ (j : Nat) (u : Value), (ndCells ⟨q0 :: q, xk, xd, xm⟩)[j]? = some u → ((w3.setCell ⟨wr.heap.size, 0, none⟩ (.string ⟨(q0 :: q).toArray⟩)).alloc (.cells #[.string ⟨(q0 :: q).toArray⟩, .int .i64 xk, .string ⟨xd.toArray⟩, .int .i64 xm] 40)).cell? ((⟨w3.heap.size, 0, none⟩ : Addr).add j) = some u) := Lib.hid (four_new _ _ (by simp) ⟨q0 :: q, xk, xd, xm⟩ _ _ rfl rfl _)
          clear hb3 hbw hbc
          repeat (first
            | (at_builtin; refine wpList_append_own _ rfl _ _ 22 rfl w.heap.size 40 i0 (ndVal zeroN) 4 48 Tryz.underlying22 hi hz0 hz1 hz2 rfl (by decide) _ _ _ rfl HOd.out ⟨w3.heap.size, 0, none⟩ 1 1 (ndCells ⟨q0 :: q, xk, xd, xm⟩) rfl rfl HNe2.out (nd_one _) (by have := hll; unfold maxLen; omega) (by omega) (by first | exact HBd.out.size | (simp; have := HBd.out.size; simp at this; omega)) ?_; intro v5 w5 ho5 hg5 _; have HO5 := Lib.hid ho5; have HB5 := Lib.hid (HBd.out.grown hg5 HBd.out.size (fun j hj => (HOd.out.lt j hj).1)); clear ho5 hg5)
            | go_skip | go_guarded | go_step | go_upon)
          refine ⟨⟨k + 1, by go_num, by omega, ?_, HB5.out⟩, by simp [Go.RowKit.intOf]; omega⟩
          rw [HSt.out, List.length_append, List.length_singleton, nodes_snoc]
          exact HO5.out
    · obtain rfl : n = k := by omega
      have HOe : Hid (wr.ownsRow w.heap.size 40 4 u5 (laidL v p).length (nodesC (laidL v p))) := Lib.hid (by
        have h := HO.out
        rw [List.take_of_length_le (by rw [HN.out]; exact Nat.le_refl _)] at h
        exact h)
      obtain ⟨aE, cE, rfl, -⟩ := owns_view HO.out
      repeat (first | go_skip | go_guarded | go_step | go_upon)
      go_ret
      exact ⟨_, rfl, HOe.out, HB.out⟩
end RC
end Go.Proofs.YtmpmmebmhffaeaaGreatDoor
