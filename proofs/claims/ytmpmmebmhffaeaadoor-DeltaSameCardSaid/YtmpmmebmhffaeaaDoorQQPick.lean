/- A region that draws its order: the operations that read are taken first, wherever they stand in the list; the others come one behind the other, and keep what is read; what stands behind them has one order. (General: no program's text.) -/
import Derived.Test.YtmpmmebmhffaeaaDoorQQHold
set_option linter.all false
set_option maxRecDepth 100000
set_option maxHeartbeats 25600000
namespace Go.Proofs.YtmpmmebmhffaeaaDoor
open Go
namespace QT
variable {P : Program} {ops : Array Oper} {md : Region.Mode} {Q : Exit → Act → World → Prop} {S : World → Prop}

def pick (l : List Oper) (ps : List Nat) : List Oper := ps.filterMap fun i => l[i]?
def permE (md : Region.Mode) (ops : Array Oper) (g n : Nat) : List Nat → Array Bool → Bool
  | i :: es, listed => decide (Region.ready md ops listed = [i]) && decide (i < n) && decide (i < ops.size) && permE md ops g n es (listed.setIfInBounds i true)
  | [], listed => Region.seqB md ops g n listed
def permB (md : Region.Mode) (ops : Array Oper) (g n : Nat) (es : List Nat) : List Nat → Array Bool → Bool
  | i :: ps, listed => (Region.ready md ops listed).contains i && Region.free md ops listed i && decide (i < n) && permB md ops g n es ps (listed.setIfInBounds i true)
  | [], listed => permE md ops g n es listed

theorem pick_cons {l : List Oper} {i : Nat} {o : Oper} {ps : List Nat} (h : l[i]? = some o) : pick l (i :: ps) = o :: pick l ps := by
  unfold pick
  rw [List.filterMap_cons, h]
theorem headS_es {l : List Oper} {n g : Nat} {T : Act → World → Prop} : ∀ (es : List Nat) (listed : Array Bool) (a : Act) (w : World),
    permE md l.toArray g n es listed = true → wpDo P l.toArray Q S T (pick l es) a w →
    HeadS P md l.toArray Q S n (fun listed' a' w' => Region.seqB md l.toArray g n listed' = true ∧ T a' w') es.length listed a w := by
  intro es
  induction es with
  | nil => intro listed a w hB h; exact ⟨by simpa only [permE] using hB, h⟩
  | cons i es ih =>
    intro listed a w hB h
    simp only [permE, Bool.and_eq_true, decide_eq_true_eq] at hB
    obtain ⟨⟨⟨h1, h2⟩, h3⟩, h4⟩ := hB
    have hl : i < l.length := by simpa using h3
    have h0 : l[i]? = some l[i] := List.getElem?_eq_getElem hl
    rw [pick_cons h0] at h
    refine ⟨fun e => (by rw [h1] at e; cases e), fun j hj => ?_⟩
    rw [h1] at hj
    obtain rfl : j = i := by simpa using hj
    refine ⟨h2, wpOp_step (o := l[j]) (by simp) (fun K' hK => h K' (fun a' w' hS hd => hK a' w' ⟨hS, ih _ a' w' h4 hd⟩))⟩
theorem headS_ps {l : List Oper} {n g : Nat} {T : Act → World → Prop} {es : List Nat} (hsel : Region.noSelect l.toArray = true) (hs : Region.sinkB md l.toArray n = true) (hc : Region.chainB md l.toArray n = true) (hn : n < l.toArray.size)
    (hQ : ∀ c a d v w, Q (.panic c) (Act.put a d v) w → Q (.panic c) a w) (w : World) (hS : S w) :
    ∀ (ps : List Nat) (listed : Array Bool) (a : Act), HeadInv md l.toArray n listed → permB md l.toArray g n es ps listed = true →
    wpTake P l.toArray S (fun a' => wpDo P l.toArray Q S T (pick l es) a' w) (pick l ps) a →
    HeadS P md l.toArray Q S n (fun listed' a' w' => Region.seqB md l.toArray g n listed' = true ∧ T a' w') (ps.length + es.length) listed a w := by
  intro ps
  induction ps with
  | nil =>
    intro listed a _ hB h
    rw [show ([] : List Nat).length + es.length = es.length by simp]
    exact headS_es es listed a w hB h
  | cons i ps ih =>
    intro listed a inv hB h
    simp only [permB, Bool.and_eq_true, decide_eq_true_eq] at hB
    obtain ⟨⟨⟨h1, h2⟩, h3⟩, h4⟩ := hB
    have hr : i ∈ Region.ready md l.toArray listed := by simpa using h1
    obtain ⟨o, h0⟩ : ∃ o, l.toArray[i]? = some o := ⟨l.toArray[i]'(by omega), Array.getElem?_eq_getElem (by omega)⟩
    have h0' : l[i]? = some o := by simpa using h0
    rw [pick_cons h0'] at h
    obtain ⟨v, hy, hK⟩ := h
    rw [show (i :: ps).length + es.length = (ps.length + es.length) + 1 by simp only [List.length_cons]; omega]
    refine headS_first h0 (Region.noSelect_spec hsel) (fun c a w h => hQ c a _ _ w h) hs hc hn h3 (fun listed' a' w' hL => seqB_ready hL.1) (ps.length + es.length) listed a w inv (Region.free_spec h0 h2) hr hy hS ?_
    exact ih _ _ (inv.set hr h3) h4 hK
def pickB (ops : Array Oper) (ps es : List Nat) (n : Nat) : Bool :=
  Region.noSelect ops && decide (n < ops.size) && decide (ps.length + es.length = n) && Region.sinkB .any ops n && Region.chainB .any ops n && permB .any ops (ops.size - n) n es ps (Array.replicate ops.size false)
theorem region_pick {id : Nat} {a : Act} {w : World} {l : List Oper} (ps es : List Nat) (n : Nat) (hm : P.follows .mixedOrders = true) (hB : pickB l.toArray ps es n = true)
    (hQ : ∀ c a d v w, Q (.panic c) (Act.put a d v) w → Q (.panic c) a w) (hS : S w.drew)
    (h : S w.drew → wpTake P l.toArray S (fun a' => wpDo P l.toArray Q S (fun a'' w'' => wpList P l.toArray Q (l.drop n) a'' w'') (pick l es) a' w.drew) (pick l ps) a) : (Code.region id l.toArray true).wp P Q a w := by
  simp only [pickB, Bool.and_eq_true, decide_eq_true_eq] at hB
  obtain ⟨⟨⟨⟨⟨hsel, hn⟩, hlen⟩, hs⟩, hc⟩, hperm⟩ := hB
  have hn' : n < l.length := by simpa using hn
  have hdl : (l.drop n).length = l.toArray.size - n := by simp
  have inv0 : HeadInv .any l.toArray n (Array.replicate l.toArray.size false) :=
    ⟨by simp, fun j oj _ hl => (by rw [getD_replicate_false] at hl; cases hl), fun t _ ht => getD_in (by simpa using ht) (getD_replicate_false _ _)⟩
  have H := headS_ps (md := .any) (g := l.toArray.size - n) (T := fun a'' w'' => wpList P l.toArray Q (l.drop n) a'' w'') (es := es) hsel hs hc hn hQ w.drew hS ps _ a inv0 hperm (h hS)
  refine wp_region_any hm ?_
  have := any_of_headS (Q := Q) (g := l.toArray.size - n) (fun listed a' w' hL => by
    have := wpAny_of_seq (md := .any) (Q' := Q) (l.drop n) n listed a' w' (fun j => by simp [List.getElem?_drop]) (by rw [hdl]; exact hL.1) hL.2
    rwa [hdl] at this) _ _ _ _ H
  rw [hlen, show n + (l.toArray.size - n) = l.toArray.size by omega] at this
  exact this
end QT
end Go.Proofs.YtmpmmebmhffaeaaDoor
