/- A region that draws its order: operations that only read are taken wherever they stand free, also between those that do something; the latter come one behind the other, and keep what is read; what stands behind them has one order. (General: no program's text.) -/
import Derived.Test.YtmpmmebmhffaeaaDoorQQPick
set_option linter.all false
set_option maxRecDepth 100000
set_option maxHeartbeats 25600000
namespace Go.Proofs.YtmpmmebmhffaeaaDoor
open Go
namespace QT
variable {P : Program} {ops : Array Oper} {md : Region.Mode} {Q : Exit → Act → World → Prop} {S : World → Prop}

def pickM (l : List Oper) (ps : List (Bool × Nat)) : List (Bool × Oper) := ps.filterMap fun p => (l[p.2]?).map fun o => (p.1, o)
def mixE (md : Region.Mode) (ops : Array Oper) (g n : Nat) : List (Bool × Nat) → Array Bool → Bool
  | (true, i) :: l, listed => (Region.ready md ops listed).contains i && Region.free md ops listed i && decide (i < n) && mixE md ops g n l (listed.setIfInBounds i true)
  | (false, i) :: l, listed => decide (Region.ready md ops listed = [i]) && decide (i < n) && decide (i < ops.size) && mixE md ops g n l (listed.setIfInBounds i true)
  | [], listed => Region.seqB md ops g n listed
/-- What reads (true) and what does something (false), in the order given. -/
def wpMix (P : Program) (ops : Array Oper) (Q : Exit → Act → World → Prop) (S : World → Prop) (T : Act → World → Prop) : List (Bool × Oper) → Act → World → Prop
  | [], a, w => T a w
  | (true, o) :: l, a, w => ∃ v, YieldsIf P ops S o v a ∧ wpMix P ops Q S T l (a.put o.dst v) w
  | (false, o) :: l, a, w => ∀ K' : Act → World → Prop, Shut (∀ a w, S w → wpMix P ops Q S T l a w → K' a w) → if Region.wanted o (yielded ops a.tmps) = true then Oper.wp P o a w K' Q else K' (a.put o.dst undef) w

theorem wpMix_take {T : Act → World → Prop} {o : Oper} {l : List (Bool × Oper)} {a : Act} {w : World} (v : Value) (hw : Region.wanted o (yielded ops a.tmps) = true) (hv : ∀ w, S w → (execOp a.eval o).run P w = .ok (.value v) w) (h : wpMix P ops Q S T l (a.put o.dst v) w) : wpMix P ops Q S T ((true, o) :: l) a w :=
  ⟨v, .inl ⟨hw, hv⟩, h⟩
theorem wpMix_nil {T : Act → World → Prop} {a : Act} {w : World} (h : T a w) : wpMix P ops Q S T [] a w := h
theorem pickM_cons {l : List Oper} {b : Bool} {i : Nat} {o : Oper} {ps : List (Bool × Nat)} (h : l[i]? = some o) : pickM l ((b, i) :: ps) = (b, o) :: pickM l ps := by
  unfold pickM
  rw [List.filterMap_cons, h]
  rfl
theorem headS_mix {l : List Oper} {n g : Nat} {T : Act → World → Prop} (hsel : Region.noSelect l.toArray = true) (hs : Region.sinkB md l.toArray n = true) (hc : Region.chainB md l.toArray n = true) (hn : n < l.toArray.size)
    (hQ : ∀ c a d v w, Q (.panic c) (Act.put a d v) w → Q (.panic c) a w) :
    ∀ (ps : List (Bool × Nat)) (listed : Array Bool) (a : Act) (w : World), S w → HeadInv md l.toArray n listed → mixE md l.toArray g n ps listed = true →
    wpMix P l.toArray Q S T (pickM l ps) a w →
    HeadS P md l.toArray Q S n (fun listed' a' w' => Region.seqB md l.toArray g n listed' = true ∧ T a' w') ps.length listed a w := by
  intro ps
  induction ps with
  | nil => intro listed a w _ _ hB h; exact ⟨by simpa only [mixE] using hB, h⟩
  | cons p ps ih =>
    intro listed a w hS inv hB h
    obtain ⟨b, i⟩ := p
    cases b with
    | true =>
      simp only [mixE, Bool.and_eq_true, decide_eq_true_eq] at hB
      obtain ⟨⟨⟨h1, h2⟩, h3⟩, h4⟩ := hB
      have hr : i ∈ Region.ready md l.toArray listed := by simpa using h1
      obtain ⟨o, h0⟩ : ∃ o, l.toArray[i]? = some o := ⟨l.toArray[i]'(by omega), Array.getElem?_eq_getElem (by omega)⟩
      have h0' : l[i]? = some o := by simpa using h0
      rw [pickM_cons h0'] at h
      obtain ⟨v, hy, hK⟩ := h
      rw [show ((true, i) :: ps).length = ps.length + 1 from rfl]
      refine headS_first h0 (Region.noSelect_spec hsel) (fun c a w h => hQ c a _ _ w h) hs hc hn h3 (fun listed' a' w' hL => seqB_ready hL.1) ps.length listed a w inv (Region.free_spec h0 h2) hr hy hS ?_
      exact ih _ _ _ hS (inv.set hr h3) h4 hK
    | false =>
      simp only [mixE, Bool.and_eq_true, decide_eq_true_eq] at hB
      obtain ⟨⟨⟨h1, h2⟩, h3⟩, h4⟩ := hB
      have hl : i < l.length := by simpa using h3
      have h0 : l[i]? = some l[i] := List.getElem?_eq_getElem hl
      rw [pickM_cons h0] at h
      refine ⟨fun e => (by rw [h1] at e; cases e), fun j hj => ?_⟩
      have hjr := hj
      rw [h1] at hj
      obtain rfl : j = i := by simpa using hj
      refine ⟨h2, wpOp_step (o := l[j]) (by simp) (fun K' hK => h K' (fun a' w' hS' hd => hK a' w' ⟨hS', ih _ a' w' hS' (inv.set hjr h2) h4 hd⟩))⟩
def mixB (ops : Array Oper) (ps : List (Bool × Nat)) (n : Nat) : Bool :=
  Region.noSelect ops && decide (n < ops.size) && decide (ps.length = n) && Region.sinkB .any ops n && Region.chainB .any ops n && mixE .any ops (ops.size - n) n ps (Array.replicate ops.size false)
theorem region_mix {id : Nat} {a : Act} {w : World} {l : List Oper} (ps : List (Bool × Nat)) (n : Nat) (hm : P.follows .mixedOrders = true) (hB : mixB l.toArray ps n = true)
    (hQ : ∀ c a d v w, Q (.panic c) (Act.put a d v) w → Q (.panic c) a w) (hS : S w.drew)
    (h : S w.drew → wpMix P l.toArray Q S (fun a'' w'' => wpList P l.toArray Q (l.drop n) a'' w'') (pickM l ps) a w.drew) : (Code.region id l.toArray true).wp P Q a w := by
  simp only [mixB, Bool.and_eq_true, decide_eq_true_eq] at hB
  obtain ⟨⟨⟨⟨⟨hsel, hn⟩, hlen⟩, hs⟩, hc⟩, hperm⟩ := hB
  have hdl : (l.drop n).length = l.toArray.size - n := by simp
  have inv0 : HeadInv .any l.toArray n (Array.replicate l.toArray.size false) :=
    ⟨by simp, fun j oj _ hl => (by rw [getD_replicate_false] at hl; cases hl), fun t _ ht => getD_in (by simpa using ht) (getD_replicate_false _ _)⟩
  have H := headS_mix (md := .any) (g := l.toArray.size - n) (T := fun a'' w'' => wpList P l.toArray Q (l.drop n) a'' w'') hsel hs hc hn hQ ps _ a w.drew hS inv0 hperm (h hS)
  refine wp_region_any hm ?_
  have := any_of_headS (Q := Q) (g := l.toArray.size - n) (fun listed a' w' hL => by
    have := wpAny_of_seq (md := .any) (Q' := Q) (l.drop n) n listed a' w' (fun j => by simp [List.getElem?_drop]) (by rw [hdl]; exact hL.1) hL.2
    rwa [hdl] at this) _ _ _ _ H
  rw [hlen, show n + (l.toArray.size - n) = l.toArray.size by omega] at this
  exact this
end QT
end Go.Proofs.YtmpmmebmhffaeaaDoor
