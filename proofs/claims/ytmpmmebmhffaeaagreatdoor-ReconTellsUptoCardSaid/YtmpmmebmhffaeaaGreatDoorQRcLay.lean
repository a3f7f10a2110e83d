/- Layer 12: how a list of items lies; what is agreed on, with both replicas exchanged; the three lists out of the arguments. -/
import Derived.Test.YtmpmmebmhffaeaaGreatDoorQRcAw
import Derived.Test.YtmpmmebmhffaeaaGreatDoorQArRS
import Derived.Test.YtmpmmebmhffaeaaGreatDoorQKit
import Derived.Lib.SmallJoins
import Derived.Deep.Slices
set_option linter.all false
set_option maxRecDepth 100000
set_option maxHeartbeats 25600000
namespace Go.Proofs.YtmpmmebmhffaeaaGreatDoor
open Go.RowKit Go.Lib Go.Maps Go.BigFrame Go.Sort
namespace RC
open OM TP TM TR TG TW NP

/-- A slice of items lies there. -/
def LayI (W : World) (ao : Option Addr) (L : List It) : Prop := 0 < L.length → ∃ g, ao = some ⟨g, 0, none⟩ ∧ g < W.heap.size ∧ ∀ (i : Nat) (x : It), L[i]? = some x → W.cell? ⟨g, i * 2, none⟩ = some (txt x.1) ∧ W.cell? ⟨g, i * 2 + 1, none⟩ = some (.int .i64 x.2)
theorem LayI.below {W W' : World} {ao : Option Addr} {L : List It} (h : LayI W ao L) (hb : Below W.heap.size W W') : LayI W' ao L := fun h0 => by
  obtain ⟨g, e, hlt, hc⟩ := h h0
  exact ⟨g, e, Nat.lt_of_lt_of_le hlt hb.size, fun i x hi => ⟨(hb.cell (p := ⟨g, i * 2, none⟩) hlt).trans (hc i x hi).1, (hb.cell (p := ⟨g, i * 2 + 1, none⟩) hlt).trans (hc i x hi).2⟩⟩
theorem LayI.nil (W : World) (ao : Option Addr) : LayI W ao [] := fun h => absurd h (by simp)
theorem itC_at : ∀ (L : List It) (i : Nat) (x : It), L[i]? = some x → (itC L)[i * 2]? = some (txt x.1) ∧ (itC L)[i * 2 + 1]? = some (.int .i64 x.2)
  | [], i, x, h => by simp at h
  | y :: L, 0, x, h => by
    simp at h
    subst h
    exact ⟨rfl, rfl⟩
  | y :: L, i + 1, x, h => by
    rw [List.getElem?_cons_succ] at h
    have ih := itC_at L i x h
    have e : ∀ j, (itC (y :: L))[(i + 1) * 2 + j]? = (itC L)[i * 2 + j]? := fun j => by
      show ([txt y.1, .int .i64 y.2] ++ itC L)[_]? = _
      rw [List.getElem?_append_right (by show 2 ≤ _; omega)]
      congr 1
      show _ - 2 = _
      omega
    exact ⟨(e 0).trans ih.1, (e 1).trans ih.2⟩
theorem lay_items {w : World} {B : Nat} {v : Value} {L : List It} (h : w.ownsRow B 43 2 v L.length (itC L)) : ∃ ao c, v = .slice ao L.length c ∧ LayI w ao L := by
  obtain ⟨ao, c, rfl, hx⟩ := owns_view h
  refine ⟨ao, c, rfl, fun h0 => ?_⟩
  obtain ⟨g, rfl, hg, _, hc⟩ := hx h0
  refine ⟨g, rfl, hg, fun k n hk => ?_⟩
  have hkl := (List.getElem?_eq_some_iff.1 hk).1
  obtain ⟨a, b⟩ := itC_at L k n hk
  exact ⟨(hc _ (by omega)).trans a, (hc _ (by omega)).trans b⟩
/-- What Items and Agree answer, whether all three are trees or not. -/
def itL (xo ta tb : List Nd) : List It := if all3 xo ta tb = true then itemsL [] (valP xo []) (valP ta []) (valP tb []) else []
def agL (xo ta tb : List Nd) : List Nd := if all3 xo ta tb = true then (agreedL (valP xo []) (valP ta []) (valP tb [])).drop 1 else []
def erL (xo ta tb : List Nd) : Int := if all3 xo ta tb = true then 0 else 60
theorem itL_any {xo ta tb : List Nd} {ao aa ab : Option Addr} {co ca cb : Nat} {W : World} (he : NF.Env W) (lo : In W ao co xo) (la : In W aa ca ta) (lb : In W ab cb tb) :
    Calls Tryz.prog 6 #[.slice ao xo.length co, .slice aa ta.length ca, .slice ab tb.length cb] W fun r w' => ∃ u c, r = .returned (.tuple #[.slice u (itL xo ta tb).length c, .int .i64 (erL xo ta tb)]) ∧ LayI w' u (itL xo ta tb) ∧ Below W.heap.size W w' := by
  refine (itemsAll_any xo ta tb ao aa ab co ca cb W he lo la lb).mono ?_
  intro r w1 hr
  unfold ItemsAns at hr
  unfold itL erL
  split at hr
  · rename_i h1
    rw [if_pos h1, if_pos h1]
    obtain ⟨u, rfl, ho, hb⟩ := hr
    obtain ⟨a1, c1, rfl, hl⟩ := lay_items ho
    exact ⟨_, _, rfl, hl, hb⟩
  · rename_i h1
    rw [if_neg h1, if_neg h1]
    obtain ⟨rfl, hb⟩ := hr
    exact ⟨_, _, rfl, LayI.nil _ _, hb⟩
theorem agL_any {xo ta tb : List Nd} {ao aa ab : Option Addr} {co ca cb : Nat} {W : World} (he : NF.Env W) (lo : In W ao co xo) (la : In W aa ca ta) (lb : In W ab cb tb) :
    Calls Tryz.prog 8 #[.slice ao xo.length co, .slice aa ta.length ca, .slice ab tb.length cb] W fun r w' => ∃ u c, r = .returned (.tuple #[.slice u (agL xo ta tb).length c, .int .i64 (erL xo ta tb)]) ∧ LayN w' u (agL xo ta tb) ∧ Below W.heap.size W w' := by
  refine (agreeAll_any xo ta tb ao aa ab co ca cb W he lo la lb).mono ?_
  intro r w1 hr
  unfold AgreeAns at hr
  unfold agL erL
  split at hr
  · rename_i h1
    rw [if_pos h1, if_pos h1]
    obtain ⟨u, c, rfl, _, hl, hb⟩ := hr
    exact ⟨_, _, by rw [List.length_drop], hl, hb⟩
  · rename_i h1
    rw [if_neg h1, if_neg h1]
    obtain ⟨rfl, hb⟩ := hr
    exact ⟨_, _, rfl, LayN.nil _ _, hb⟩
theorem itL_len (xo ta tb : List Nd) : (itL xo ta tb).length ≤ 3003 := by
  unfold itL
  split
  · rename_i h
    obtain ⟨h1, h2, h3⟩ := all3_iff h
    have := items_len [] (valP xo []) (valP ta []) (valP tb [])
    have := val_len h1 []
    have := val_len h2 []
    have := val_len h3 []
    omega
  · exact Nat.zero_le _
theorem agL_len (xo ta tb : List Nd) : (agL xo ta tb).length ≤ 3003 := by
  unfold agL
  split
  · rename_i h
    obtain ⟨h1, h2, h3⟩ := all3_iff h
    have := agreed_len (valP xo []) (valP ta []) (valP tb [])
    have := val_len h1 []
    have := val_len h2 []
    have := val_len h3 []
    rw [List.length_drop]
    omega
  · exact Nat.zero_le _
/- with both exchanged -/
theorem all3_swap (xo ta tb : List Nd) : all3 xo tb ta = all3 xo ta tb := by
  unfold all3
  rw [Bool.and_comm (treeB tb)]
theorem erL_swap (xo ta tb : List Nd) : erL xo tb ta = erL xo ta tb := by
  unfold erL
  rw [all3_swap]
theorem itL_swap (xo ta tb : List Nd) : itL xo tb ta = (itL xo ta tb).map swapI := by
  unfold itL
  rw [all3_swap, items_swap]
  split <;> rfl
theorem flat_congr {α : Type} {f g : List UInt8 → List α} : ∀ {l : List (List UInt8)}, (∀ k ∈ l, f k = g k) → l.flatMap f = l.flatMap g
  | [], _ => rfl
  | k :: l, h => by
    rw [List.flatMap_cons, List.flatMap_cons, h k (List.mem_cons_self ..), flat_congr (fun x hx => h x (List.mem_cons_of_mem _ hx))]
theorem dir_one {t : List Nd} (ht : Tree t) {p : List UInt8} (hp : p = [] ∨ pathL p = true) (hd : dirV (valP t p) = true) : (valP t p).take 1 = [⟨p, 2, [], 0⟩] := by
  rcases hp with rfl | hp
  · rw [valP_nil]; rfl
  · cases e : valP t p with
    | nil => rw [e] at hd; cases hd
    | cons h r =>
      obtain ⟨h1, h2, _⟩ := head_p ht hp e
      rw [e] at hd
      have hk : h.kind = 2 := of_decide_eq_true hd
      have hr := ht.right h h2
      obtain ⟨a, b, c, d⟩ := h
      simp only at h1 hk
      subst h1 hk
      have hr2 : c = [] ∧ d = 0 := by
        unfold rightB at hr
        simpa using hr
      rw [hr2.1, hr2.2]
      rfl
section
variable {xo ta tb : List Nd}
theorem agreed_swap (ho : Tree xo) (ha : Tree ta) (hb : Tree tb) : ∀ (N : Nat) (p : List UInt8), (p = [] ∨ pathL p = true) → (valP ta p).length < N → agreedL (valP xo p) (valP tb p) (valP ta p) = agreedL (valP xo p) (valP ta p) (valP tb p)
  | 0, _, _, h => absurd h (Nat.not_lt_zero _)
  | N + 1, p, hp, hN => by
    rw [agreed_step (valP xo p) (valP tb p) (valP ta p), agreed_step (valP xo p) (valP ta p) (valP tb p)]
    by_cases h1 : valP ta p = valP tb p
    · rw [if_pos h1, if_pos h1.symm, h1]
    rw [if_neg h1, if_neg (fun e => h1 e.symm)]
    by_cases h2 : dirV (valP ta p) = true ∧ dirV (valP tb p) = true
    · rw [if_pos h2, if_pos ⟨h2.2, h2.1⟩, dir_one ha hp h2.1, dir_one hb hp h2.2, namesK_swap]
      congr 1
      refine flat_congr fun k hk => ?_
      obtain ⟨h3, eo, ea, eb, _⟩ := name_ok ho ha hb hp hk
      have hne : valP ta p ≠ [] := fun e => by rw [e] at h2; cases h2.1
      have hlt := sub_len (valP ta p) k hne
      rw [ea] at hlt
      rw [eo, ea, eb]
      exact agreed_swap ho ha hb N (belowP p k) (.inr h3) (by omega)
    · rw [if_neg h2, if_neg (fun h => h2 ⟨h.2, h.1⟩)]
end
theorem agL_swap (xo ta tb : List Nd) : agL xo tb ta = agL xo ta tb := by
  unfold agL
  rw [all3_swap]
  split
  · rename_i h
    obtain ⟨h1, h2, h3⟩ := all3_iff h
    rw [agreed_swap h1 h2 h3 _ [] (.inl rfl) (Nat.lt_succ_self _)]
  · rfl
/-- Items compared as structs. -/
theorem eq_it (a b : It) (W : World) : (Op.equalIn 10000 43 (.agg #[txt a.1, .int .i64 a.2]) (.agg #[txt b.1, .int .i64 b.2])).run Tryz.prog W = .ok (decide (a = b)) W := by
  rw [run_equalIn_struct W 9999 43 _ _ (by kernel_rfl) (by kernel_rfl)]
  have names : (Tryz.prog.fieldsOf 43).toList.map (fun f => (f.name, f.type, f.offset)) = [("Path", 9, 0), ("What", 3, 1)] := by kernel_rfl
  obtain ⟨f0, f1, e⟩ : ∃ f0 f1, (Tryz.prog.fieldsOf 43).toList = [f0, f1] := by
    have hl := congrArg List.length names
    rw [List.length_map] at hl
    match h : (Tryz.prog.fieldsOf 43).toList, hl with
    | [f0, f1], _ => exact ⟨f0, f1, rfl⟩
  rw [e] at names
  simp only [List.map_cons, List.map_nil, List.cons.injEq, Prod.mk.injEq, and_true] at names
  obtain ⟨⟨n0, t0, o0⟩, n1, t1, o1⟩ := names
  rw [e]
  unfold txt
  have s1 := str_eq a.1 b.1
  obtain ⟨p, k⟩ := a
  obtain ⟨p', k'⟩ := b
  simp only at s1 ⊢
  simp [Op.eqFields, go_sem, n0, n1, t0, t1, o0, o1, Tryz.underlying9, Tryz.underlying3]
  by_cases h1 : p = p' <;> by_cases h2 : k = k' <;> simp [h1, h2]
/- the arguments -/
section
open Go.Deep Go.ChangeShapes Go.WideShapes Go.ChangeAt
variable {H : Type} {enc : TypeId × Value → H} {P : Program} {w : World} {base : Nat} {spare : Nat → Bool} {held : Bool}
theorem slice_shape {t e : TypeId} {fuel : Nat} {v : Value} {x : DataW H × List MemPlace} (ht : P.underlying t = some (.slice e)) (h : DataW.trod enc P w base spare held fuel t [v] = some x) : ∃ a len cap, v = .slice a len cap := by
  rcases open_slice ht h with h0 | ⟨a, len, cap, m, n, D, Pl, h1, _⟩
  · have := h0.1
    simp only [List.cons.injEq, and_true] at this
    exact ⟨_, _, _, this⟩
  · simp only [List.cons.injEq, and_true] at h1
    exact ⟨_, _, _, h1⟩
set_option maxRecDepth 100000 in
theorem three_arg {W : World} {r : Reach} {b0 : Nat} {v : Value} {d : DataW H} {p : List MemPlace} (hv : Value.okWide Tryz.prog W r b0 24 v) (h : DataW.Trod enc Tryz.prog W 0 spare held 24 v d p) :
    ∃ (ao aa ab : Option Addr) (co ca cb : Nat) (xo ta tb : List Nd), v = .agg #[.slice ao xo.length co, .slice aa ta.length ca, .slice ab tb.length cb] ∧ In W ao co xo ∧ In W aa ca ta ∧ In W ab cb tb := by
  obtain ⟨v0, v1, v2, y0, y1, y2, n, rfl, rfl, _, t0, t1, t2⟩ := Go.Joins.open_agg3 (P := Tryz.prog) (t := 24) Tryz.underlying24 (by kernel_rfl) (by kernel_rfl) hv h
  obtain ⟨a0, l0, c0, rfl⟩ := slice_shape Tryz.underlying22 t0
  obtain ⟨a1, l1, c1, rfl⟩ := slice_shape Tryz.underlying22 t1
  obtain ⟨a2, l2, c2, rfl⟩ := slice_shape Tryz.underlying22 t2
  obtain ⟨xo, rfl, h0⟩ := TF.nodes_wide t0
  obtain ⟨ta, rfl, h1⟩ := TF.nodes_wide t1
  obtain ⟨tb, rfl, h2⟩ := TF.nodes_wide t2
  exact ⟨a0, a1, a2, c0, c1, c2, xo, ta, tb, rfl, h0, h1, h2⟩
end
end RC
end Go.Proofs.YtmpmmebmhffaeaaGreatDoor
