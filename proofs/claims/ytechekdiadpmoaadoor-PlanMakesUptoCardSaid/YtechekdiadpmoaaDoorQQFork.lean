/- A region that draws its order: the operations that read are taken first, wherever they stand in the list; of the others one or two may come up at a time, whichever is picked; what stands behind them has one order. (General: no program's text.) -/
import Derived.Test.YtechekdiadpmoaaDoorQQPick
set_option linter.all false
set_option maxRecDepth 100000
set_option maxHeartbeats 25600000
namespace Go.Proofs.YtechekdiadpmoaaDoor
open Go
namespace QT
variable {P : Program} {ops : Array Oper} {md : Region.Mode} {Q : Exit → Act → World → Prop} {S : World → Prop}

def forkB (md : Region.Mode) (ops : Array Oper) (n : Nat) : List Nat → Array Bool → Bool
  | i :: ps, listed => (Region.ready md ops listed).contains i && Region.free md ops listed i && decide (i < n) && forkB md ops n ps (listed.setIfInBounds i true)
  | [], _ => true
def marks : List Nat → Array Bool → Array Bool
  | i :: ps, listed => marks ps (listed.setIfInBounds i true)
  | [], listed => listed
/-- k operations more, whichever is picked; then the tail. -/
def Fork (P : Program) (md : Region.Mode) (ops : Array Oper) (Q : Exit → Act → World → Prop) (S : World → Prop) (n : Nat) (T : Act → World → Prop) (k : Nat) (listed : Array Bool) (a : Act) (w : World) : Prop :=
  HeadS P md ops Q S n (fun listed' a' w' => Region.seqB md ops (ops.size - n) n listed' = true ∧ T a' w') k listed a w

theorem fork_nil {n : Nat} {T : Act → World → Prop} {listed : Array Bool} {a : Act} {w : World} (hB : Region.seqB md ops (ops.size - n) n listed = true) (h : T a w) : Fork P md ops Q S n T 0 listed a w := ⟨hB, h⟩
theorem fork_one {n k : Nat} {T : Act → World → Prop} {listed : Array Bool} {a : Act} {w : World} (i : Nat) (o : Oper) (h0 : ops[i]? = some o) (hr : (Region.ready md ops listed == [i] && decide (i < n)) = true)
    (h : ∀ K' : Act → World → Prop, Shut (∀ a' w', S w' → Fork P md ops Q S n T k (listed.setIfInBounds i true) a' w' → K' a' w') → if Region.wanted o (yielded ops a.tmps) = true then Oper.wp P o a w K' Q else K' (a.put o.dst undef) w) : Fork P md ops Q S n T (k + 1) listed a w := by
  simp only [Bool.and_eq_true, decide_eq_true_eq, beq_iff_eq] at hr
  obtain ⟨h1, h2⟩ := hr
  refine ⟨fun e => (by rw [h1] at e; cases e), fun j hj => ?_⟩
  rw [h1] at hj
  obtain rfl : j = i := by simpa using hj
  exact ⟨h2, wpOp_step h0 (fun K' hK => h K' (fun a' w' hS hd => hK a' w' ⟨hS, hd⟩))⟩
theorem fork_two {n k : Nat} {T : Act → World → Prop} {listed : Array Bool} {a : Act} {w : World} (i i2 : Nat) (o o2 : Oper) (h0 : ops[i]? = some o) (h02 : ops[i2]? = some o2) (hr : (Region.ready md ops listed == [i, i2] && decide (i < n) && decide (i2 < n)) = true)
    (h : ∀ K' : Act → World → Prop, Shut (∀ a' w', S w' → Fork P md ops Q S n T k (listed.setIfInBounds i true) a' w' → K' a' w') → if Region.wanted o (yielded ops a.tmps) = true then Oper.wp P o a w K' Q else K' (a.put o.dst undef) w)
    (h' : ∀ K' : Act → World → Prop, Shut (∀ a' w', S w' → Fork P md ops Q S n T k (listed.setIfInBounds i2 true) a' w' → K' a' w') → if Region.wanted o2 (yielded ops a.tmps) = true then Oper.wp P o2 a w K' Q else K' (a.put o2.dst undef) w) : Fork P md ops Q S n T (k + 1) listed a w := by
  simp only [Bool.and_eq_true, decide_eq_true_eq, beq_iff_eq] at hr
  obtain ⟨⟨h1, h2⟩, h3⟩ := hr
  refine ⟨fun e => (by rw [h1] at e; cases e), fun j hj => ?_⟩
  rw [h1] at hj
  simp only [List.mem_cons, List.not_mem_nil, or_false] at hj
  rcases hj with e | e
  · subst e
    exact ⟨h2, wpOp_step h0 (fun K' hK => h K' (fun a' w' hS hd => hK a' w' ⟨hS, hd⟩))⟩
  · subst e
    exact ⟨h3, wpOp_step h02 (fun K' hK => h' K' (fun a' w' hS hd => hK a' w' ⟨hS, hd⟩))⟩
theorem headS_fork {l : List Oper} {n k : Nat} {T : Act → World → Prop} (hsel : Region.noSelect l.toArray = true) (hs : Region.sinkB md l.toArray n = true) (hc : Region.chainB md l.toArray n = true) (hn : n < l.toArray.size)
    (hQ : ∀ c a d v w, Q (.panic c) (Act.put a d v) w → Q (.panic c) a w) (w : World) (hS : S w) :
    ∀ (ps : List Nat) (listed : Array Bool) (a : Act), HeadInv md l.toArray n listed → forkB md l.toArray n ps listed = true →
    wpTake P l.toArray S (fun a' => Fork P md l.toArray Q S n T k (marks ps listed) a' w) (pick l ps) a →
    HeadS P md l.toArray Q S n (fun listed' a' w' => Region.seqB md l.toArray (l.toArray.size - n) n listed' = true ∧ T a' w') (ps.length + k) listed a w := by
  intro ps
  induction ps with
  | nil =>
    intro listed a _ _ h
    rw [show ([] : List Nat).length + k = k by simp]
    exact h
  | cons i ps ih =>
    intro listed a inv hB h
    simp only [forkB, Bool.and_eq_true, decide_eq_true_eq] at hB
    obtain ⟨⟨⟨h1, h2⟩, h3⟩, h4⟩ := hB
    have hr : i ∈ Region.ready md l.toArray listed := by simpa using h1
    obtain ⟨o, h0⟩ : ∃ o, l.toArray[i]? = some o := ⟨l.toArray[i]'(by omega), Array.getElem?_eq_getElem (by omega)⟩
    have h0' : l[i]? = some o := by simpa using h0
    rw [pick_cons h0'] at h
    obtain ⟨v, hy, hK⟩ := h
    rw [show (i :: ps).length + k = (ps.length + k) + 1 by simp only [List.length_cons]; omega]
    refine headS_first h0 (Region.noSelect_spec hsel) (fun c a w h => hQ c a _ _ w h) hs hc hn h3 (fun listed' a' w' hL => seqB_ready hL.1) (ps.length + k) listed a w inv (Region.free_spec h0 h2) hr hy hS ?_
    exact ih _ _ (inv.set hr h3) h4 hK
def forksB (ops : Array Oper) (ps : List Nat) (k n : Nat) : Bool :=
  Region.noSelect ops && decide (n < ops.size) && decide (ps.length + k = n) && Region.sinkB .any ops n && Region.chainB .any ops n && forkB .any ops n ps (Array.replicate ops.size false)
theorem region_fork {id : Nat} {a : Act} {w : World} {l : List Oper} (ps : List Nat) (k n : Nat) (hm : P.follows .mixedOrders = true) (hB : forksB l.toArray ps k n = true)
    (hQ : ∀ c a d v w, Q (.panic c) (Act.put a d v) w → Q (.panic c) a w) (hS : S w.drew)
    (h : S w.drew → wpTake P l.toArray S (fun a' => Fork P .any l.toArray Q S n (fun a'' w'' => wpList P l.toArray Q (l.drop n) a'' w'') k (marks ps (Array.replicate l.toArray.size false)) a' w.drew) (pick l ps) a) : (Code.region id l.toArray true).wp P Q a w := by
  simp only [forksB, Bool.and_eq_true, decide_eq_true_eq] at hB
  obtain ⟨⟨⟨⟨⟨hsel, hn⟩, hlen⟩, hs⟩, hc⟩, hperm⟩ := hB
  have hn' : n < l.length := by simpa using hn
  have hdl : (l.drop n).length = l.toArray.size - n := by simp
  have inv0 : HeadInv .any l.toArray n (Array.replicate l.toArray.size false) :=
    ⟨by simp, fun j oj _ hl => (by rw [getD_replicate_false] at hl; cases hl), fun t _ ht => getD_in (by simpa using ht) (getD_replicate_false _ _)⟩
  have H := headS_fork (md := .any) (T := fun a'' w'' => wpList P l.toArray Q (l.drop n) a'' w'') (k := k) hsel hs hc hn hQ w.drew hS ps _ a inv0 hperm (h hS)
  refine wp_region_any hm ?_
  have := any_of_headS (Q := Q) (g := l.toArray.size - n) (fun listed a' w' hL => by
    have := wpAny_of_seq (md := .any) (Q' := Q) (l.drop n) n listed a' w' (fun j => by simp [List.getElem?_drop]) (by rw [hdl]; exact hL.1) hL.2
    rwa [hdl] at this) _ _ _ _ H
  rw [hlen, show n + (l.toArray.size - n) = l.toArray.size by omega] at this
  exact this
end QT
end Go.Proofs.YtechekdiadpmoaaDoor
