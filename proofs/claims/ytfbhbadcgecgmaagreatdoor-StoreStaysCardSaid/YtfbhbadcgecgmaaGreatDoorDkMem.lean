/- Layer 7: how a disk of the program lies in memory. -/
import Derived.Test.YtfbhbadcgecgmaaGreatDoorMg1
import Derived.Test.YtfbhbadcgecgmaaGreatDoorFoot
import Derived.Maps.AppendAt
namespace Go.Proofs.YtfbhbadcgecgmaaGreatDoor
open Go.RowKit Go.Lib
namespace DM
open OM TP TM DP FP

def ptrV (adr : Int → Nat) (k : Int) : Value := if k = 0 then .pointer none else .pointer (some ⟨adr k, 0, none⟩)
def enCells (adr : Int → Nat) (e : Nd) : List Value := [txt e.path, ptrV adr e.kind]
def ensC (adr : Int → Nat) (ns : List Nd) : List Value := ns.flatMap (enCells adr)
def enV (adr : Int → Nat) (e : Nd) : Value := .agg #[txt e.path, ptrV adr e.kind]
theorem ptr_zero (adr : Int → Nat) : ptrV adr 0 = .pointer none := rfl
theorem ptr_pos (adr : Int → Nat) {k : Int} (h : k ≠ 0) : ptrV adr k = .pointer (some ⟨adr k, 0, none⟩) := if_neg h
/-- One entry lies there. -/
structure EnAt (W : World) (adr : Int → Nat) (g o : Nat) (e : Nd) : Prop where
  p : W.cell? ⟨g, o, none⟩ = some (txt e.path)
  i : W.cell? ⟨g, o + 1, none⟩ = some (ptrV adr e.kind)
/-- A slice of entries lies there. -/
def LayE (W : World) (adr : Int → Nat) (ao : Option Addr) (ns : List Nd) : Prop :=
  0 < ns.length → ∃ g o, ao = some ⟨g, o, none⟩ ∧ g < W.heap.size ∧ ∀ (k : Nat) (e : Nd), ns[k]? = some e → EnAt W adr g (o + k * 2) e
theorem EnAt.same {W W' : World} {adr : Int → Nat} {g o : Nat} {e : Nd} (h : EnAt W adr g o e) (hb : W'.heap[g]? = W.heap[g]?) : EnAt W' adr g o e :=
  ⟨(World.cell?_of_block (a := ⟨g, o, none⟩) hb).trans h.p, (World.cell?_of_block (a := ⟨g, o + 1, none⟩) hb).trans h.i⟩
theorem LayE.same {W W' : World} {adr : Int → Nat} {ao : Option Addr} {ns : List Nd} (h : LayE W adr ao ns) (hs : W.heap.size ≤ W'.heap.size) (hb : ∀ a, ao = some a → a.block < W.heap.size → W'.heap[a.block]? = W.heap[a.block]?) : LayE W' adr ao ns := fun h0 => by
  obtain ⟨g, o, rfl, hlt, hc⟩ := h h0
  exact ⟨g, o, rfl, by omega, fun k e hk => (hc k e hk).same (hb _ rfl hlt)⟩
theorem LayE.below {W W' : World} {adr : Int → Nat} {ao : Option Addr} {ns : List Nd} (h : LayE W adr ao ns) (hb : Below W.heap.size W W') : LayE W' adr ao ns :=
  h.same hb.size (fun a _ ha => hb.block _ ha)
theorem LayE.nil (W : World) (adr : Int → Nat) (ao : Option Addr) : LayE W adr ao [] := fun h => absurd h (by simp)
theorem ens_len (adr : Int → Nat) (ns : List Nd) : (ensC adr ns).length = ns.length * 2 := by
  induction ns with
  | nil => rfl
  | cons n ns ih =>
    show (enCells adr n ++ ensC adr ns).length = _
    rw [List.length_append, ih, List.length_cons]
    show 2 + _ = _
    omega
theorem ens_app (adr : Int → Nat) (a b : List Nd) : ensC adr (a ++ b) = ensC adr a ++ ensC adr b := by unfold ensC; rw [List.flatMap_append]
theorem ens_snoc (adr : Int → Nat) (a : List Nd) (e : Nd) : ensC adr (a ++ [e]) = ensC adr a ++ enCells adr e := by rw [ens_app]; rfl
theorem ens_one (adr : Int → Nat) (ns : List Nd) : ∀ u ∈ ensC adr ns, u.oneCell' = true := by
  intro u hu
  obtain ⟨e, _, he⟩ := List.mem_flatMap.1 hu
  unfold enCells at he
  rcases List.mem_cons.1 he with rfl | he
  · rfl
  · rcases List.mem_cons.1 he with rfl | he
    · unfold ptrV; split <;> rfl
    · cases he
theorem ens_at (adr : Int → Nat) : ∀ (ns : List Nd) (k : Nat) (e : Nd), ns[k]? = some e → (ensC adr ns)[k * 2]? = some (txt e.path) ∧ (ensC adr ns)[k * 2 + 1]? = some (ptrV adr e.kind)
  | [], k, n, h => by simp at h
  | x :: ns, 0, n, h => by
    simp at h
    subst h
    exact ⟨rfl, rfl⟩
  | x :: ns, k + 1, n, h => by
    rw [List.getElem?_cons_succ] at h
    have ih := ens_at adr ns k n h
    have e : ∀ j, (ensC adr (x :: ns))[(k + 1) * 2 + j]? = (ensC adr ns)[k * 2 + j]? := fun j => by
      show (enCells adr x ++ ensC adr ns)[_]? = _
      rw [List.getElem?_append_right (by show 2 ≤ _; omega)]
      congr 1
      show _ - 2 = _
      omega
    exact ⟨(e 0).trans ih.1, (e 1).trans ih.2⟩
theorem ens_take (adr : Int → Nat) (ns : List Nd) (k : Nat) : ensC adr (ns.take k) = (ensC adr ns).take (k * 2) := by
  induction ns generalizing k with
  | nil => simp [ensC]
  | cons n ns ih =>
    cases k with
    | zero => simp [ensC]
    | succ k =>
      rw [List.take_succ_cons]
      show enCells adr n ++ ensC adr (ns.take k) = (enCells adr n ++ ensC adr ns).take _
      rw [ih, List.take_append, show (enCells adr n).length = 2 from rfl, List.take_of_length_le (l := enCells adr n) (by rw [show (enCells adr n).length = 2 from rfl]; omega), show (k + 1) * 2 - 2 = k * 2 by omega]
theorem ens_drop (adr : Int → Nat) (ns : List Nd) (k : Nat) : ensC adr (ns.drop k) = (ensC adr ns).drop (k * 2) := by
  induction ns generalizing k with
  | nil => simp [ensC]
  | cons n ns ih =>
    cases k with
    | zero => simp [ensC]
    | succ k =>
      rw [List.drop_succ_cons]
      show ensC adr (ns.drop k) = (enCells adr n ++ ensC adr ns).drop _
      rw [ih, List.drop_append, show (enCells adr n).length = 2 from rfl, show (enCells adr n).drop ((k + 1) * 2) = [] from List.drop_eq_nil_of_le (by rw [show (enCells adr n).length = 2 from rfl]; omega), show (k + 1) * 2 - 2 = k * 2 by omega]
      rfl
theorem ens_adr {adr adr' : Int → Nat} {ns : List Nd} (h : ∀ e ∈ ns, adr' e.kind = adr e.kind) : ensC adr' ns = ensC adr ns := by
  unfold ensC
  induction ns with
  | nil => rfl
  | cons n ns ih =>
    rw [List.flatMap_cons, List.flatMap_cons, ih (fun e he => h e (List.mem_cons_of_mem _ he))]
    unfold enCells ptrV
    rw [h n (List.mem_cons_self ..)]
theorem LayE.adr {W : World} {adr adr' : Int → Nat} {ao : Option Addr} {ns : List Nd} (h : LayE W adr ao ns) (ha : ∀ e ∈ ns, adr' e.kind = adr e.kind) : LayE W adr' ao ns := fun h0 => by
  obtain ⟨g, o, e1, hlt, hc⟩ := h h0
  refine ⟨g, o, e1, hlt, fun k e hk => ⟨(hc k e hk).p, ?_⟩⟩
  have := (hc k e hk).i
  unfold ptrV at this ⊢
  rw [ha e (List.mem_of_getElem? hk)]
  exact this
/-- An owned list of entries. -/
abbrev OwnE (W : World) (adr : Int → Nat) (v : Value) (ns : List Nd) : Prop := W.ownsRow 0 93 2 v ns.length (ensC adr ns)
theorem layE_own {w : World} {adr : Int → Nat} {v : Value} {ns : List Nd} (h : OwnE w adr v ns) : ∃ ao c, v = .slice ao ns.length c ∧ LayE w adr ao ns ∧ ns.length ≤ c ∧ (ao = none → c = 0) ∧ (∀ a, ao = some a → v.ownBlock = some a.block) := by
  obtain ⟨ao, c, rfl, hx⟩ := owns_view h
  refine ⟨ao, c, rfl, fun h0 => ?_, ?_, ?_, fun a ha => by subst ha; rfl⟩
  · obtain ⟨g, rfl, hg, _, hc⟩ := hx h0
    refine ⟨g, 0, rfl, hg, fun k n hk => ?_⟩
    have hkl := (List.getElem?_eq_some_iff.1 hk).1
    obtain ⟨a, b⟩ := ens_at adr ns k n hk
    rw [Nat.zero_add]
    exact ⟨(hc _ (by omega)).trans a, (hc _ (by omega)).trans b⟩
  · rcases h.2 with ⟨e, hn⟩ | ⟨g, cap, cur, e, _, _, h1, _⟩
    · rw [hn]; exact Nat.zero_le _
    · injection e with _ _ e3
      omega
  · intro e
    subst e
    rcases h.2 with ⟨e, hn⟩ | ⟨g, cap, cur, e, _⟩
    · injection e with _ _ e3
    · injection e with e1
      cases e1
/- inodes -/
def inoC (k : Int) (i : Ino) : Array Value := #[.int .i64 k, .int .i64 i.time, .int .i64 i.kind, .int .i64 i.mode, txt i.data, .bool i.dirty]
def InoAt (W : World) (g : Nat) (k : Int) (i : Ino) : Prop := W.heap[g]? = some (.cells (inoC k i) 129 (0, 0))
/-- The inodes of these entries lie there. -/
def LayI (W : World) (adr : Int → Nat) (ns : List Nd) (I : List Ino) : Prop := ∀ e ∈ ns, e.kind ≠ 0 → InoAt W (adr e.kind) e.kind (inoOf I e.kind)
theorem LayI.below {W W' : World} {adr : Int → Nat} {ns : List Nd} {I : List Ino} (h : LayI W adr ns I) (hb : Below W.heap.size W W') : LayI W' adr ns I := fun e he hk => by
  have := h e he hk
  unfold InoAt at this ⊢
  rw [hb.block _ (Array.getElem?_eq_some_iff.1 this).1]
  exact this
theorem LayI.sub {W : World} {adr : Int → Nat} {ns ms : List Nd} {I : List Ino} (h : LayI W adr ns I) (hs : ∀ e ∈ ms, e ∈ ns) : LayI W adr ms I := fun e he hk => h e (hs e he) hk
theorem InoAt.cells {W : World} {g : Nat} {k : Int} {i : Ino} (h : InoAt W g k i) :
    W.cell? ⟨g, 0, none⟩ = some (.int .i64 k) ∧ W.cell? ⟨g, 1, none⟩ = some (.int .i64 i.time) ∧ W.cell? ⟨g, 2, none⟩ = some (.int .i64 i.kind) ∧ W.cell? ⟨g, 3, none⟩ = some (.int .i64 i.mode) ∧ W.cell? ⟨g, 4, none⟩ = some (txt i.data) ∧ W.cell? ⟨g, 5, none⟩ = some (.bool i.dirty) :=
  ⟨by rw [cell_of_row W g 0 _ _ _ h]; rfl, by rw [cell_of_row W g 1 _ _ _ h]; rfl, by rw [cell_of_row W g 2 _ _ _ h]; rfl, by rw [cell_of_row W g 3 _ _ _ h]; rfl, by rw [cell_of_row W g 4 _ _ _ h]; rfl, by rw [cell_of_row W g 5 _ _ _ h]; rfl⟩
end DM
end Go.Proofs.YtfbhbadcgecgmaaGreatDoor
