/- Texts of this seat, put one behind the other: QHold QPick QMix QTail QFork QForkI. -/
import Derived.StillTail
import Derived.Deep.RegionHeld3
import Derived.Lib.QuietBelow
import Derived.BigQuiet
set_option linter.all false
set_option maxRecDepth 100000
set_option maxHeartbeats 25600000
section
/- A region that draws its order: the first operations only read, and their values are the same in all worlds of a set that the others keep: they are taken first. The others come one behind the other; what stands behind them has one order, and need keep nothing. (General: no program's text.) -/
namespace Go.Proofs.Ytdkfoakmjeealaa
open Go
namespace QT
variable {P : Program} {ops : Array Oper} {md : Region.Mode} {Q : Exit → Act → World → Prop} {S : World → Prop}

def HeadS (P : Program) (md : Region.Mode) (ops : Array Oper) (Q : Exit → Act → World → Prop) (S : World → Prop) (n : Nat) (L : Array Bool → Act → World → Prop) : Nat → Array Bool → Act → World → Prop
  | 0, listed, a, w => L listed a w
  | f + 1, listed, a, w => Region.ready md ops listed ≠ [] ∧ ∀ i ∈ Region.ready md ops listed, i < n ∧ wpOp P ops Q i (fun a' w' => S w' ∧ HeadS P md ops Q S n L f (listed.setIfInBounds i true) a' w') a w

theorem any_of_headS {n g : Nat} {L : Array Bool → Act → World → Prop} (hL : ∀ listed a w, L listed a w → wpAny P md ops Q g listed a w) :
    ∀ (f : Nat) (listed : Array Bool) (a : Act) (w : World), HeadS P md ops Q S n L f listed a w → wpAny P md ops Q (f + g) listed a w := by
  intro f
  induction f with
  | zero => intro listed a w h; rw [Nat.zero_add]; exact hL _ _ _ h
  | succ f ih =>
    intro listed a w h
    rw [show f + 1 + g = (f + g) + 1 by omega]
    exact ⟨fun h0 => absurd h0 h.1, fun i hi => wpOp_mono (fun a' w' h' => ih _ a' w' h'.2) (h.2 i hi).2⟩

theorem headS_first {n i : Nat} {oi : Oper} {v : Value} {L : Array Bool → Act → World → Prop} (hi : ops[i]? = some oi) (hsel : ∀ (j : Nat) (o : Oper) cs b, ops[j]? = some o → o.op ≠ .select cs b)
    (hQ : ∀ c a w, Q (.panic c) (a.put oi.dst v) w → Q (.panic c) a w)
    (hs : Region.sinkB md ops n = true) (hc : Region.chainB md ops n = true) (hn : n < ops.size) (hin : i < n)
    (hdone : ∀ listed a w, L listed a w → ∀ j ∈ Region.ready md ops listed, n ≤ j) :
    ∀ (f : Nat) (listed : Array Bool) (a : Act) (w : World), HeadInv md ops n listed →
      (∀ j oj, ops[j]? = some oj → j ≠ i → listed.getD j true = false → (∀ e ∈ oj.after, Region.binds md e = true → e.on ≠ i) → oi.apart ops oj = true) →
      i ∈ Region.ready md ops listed → YieldsIf P ops S oi v a → S w →
      HeadS P md ops Q S n L f (listed.setIfInBounds i true) (a.put oi.dst v) w → HeadS P md ops Q S n L (f + 1) listed a w := by
  intro f
  induction f with
  | zero =>
    intro listed a w inv _ hr hy hS H
    have hun := (mem_ready.1 hr).1
    refine ⟨fun h => (by rw [h] at hr; cases hr), fun j hj => ?_⟩
    have hjn : j < n := Nat.lt_of_not_le fun h => tail_waits hs hc hn inv _ i rfl hin hun j h hj
    refine ⟨hjn, ?_⟩
    by_cases e : j = i
    · subst e; exact hy.wpOp hi hS ⟨hS, H⟩
    · have := hdone _ _ _ H j (ready_mono hj e)
      omega
  | succ f ih =>
    intro listed a w inv hfree hr hy hS H
    have hun := (mem_ready.1 hr).1
    refine ⟨fun h => (by rw [h] at hr; cases hr), fun j hj => ?_⟩
    have hjn : j < n := Nat.lt_of_not_le fun h => tail_waits hs hc hn inv _ i rfl hin hun j h hj
    refine ⟨hjn, ?_⟩
    by_cases e : j = i
    · subst e; exact hy.wpOp hi hS ⟨hS, H⟩
    · obtain ⟨hjun, oj, hoj, hall⟩ := mem_ready.1 hj
      have hnot : ∀ e ∈ oj.after, Region.binds md e = true → e.on ≠ i := fun e he hb heq => by
        have h1 := hall e he hb
        rw [heq, getD_both hun] at h1
        cases h1
      have h2 := wpOp_putIf hoj (hfree j oj hoj e hjun hnot) (fun cs b => hsel i oi cs b hi) (fun cs b => hsel j oj cs b hoj) hQ hy (H.2 j (ready_mono hj e)).2
      refine wpOp_mono (fun a' w' h3 => ⟨h3.2.1, ih _ a' w' (inv.set hj hjn) (fun k ok hk hki hku hno => ?_) (ready_mono hr (Ne.symm e)) h3.1 h3.2.1 ?_⟩) h2
      · refine hfree k ok hk hki ?_ hno
        by_cases hjk : j = k
        · subst hjk; exact hjun
        · rw [getD_set_ne true hjk] at hku; exact hku
      · rw [Array.setIfInBounds_comm _ _ e]
        exact h3.2.2

/-- The operations that only read, in the list's order. -/
def wpTake (P : Program) (ops : Array Oper) (S : World → Prop) (K : Act → Prop) : List Oper → Act → Prop
  | [], a => K a
  | o :: l, a => ∃ v, YieldsIf P ops S o v a ∧ wpTake P ops S K l (a.put o.dst v)
/-- The operations that do something, in the list's order: each keeps the set. -/
def wpDo (P : Program) (ops : Array Oper) (Q : Exit → Act → World → Prop) (S : World → Prop) (T : Act → World → Prop) : List Oper → Act → World → Prop
  | [], a, w => T a w
  | o :: l, a, w => ∀ K' : Act → World → Prop, Shut (∀ a w, S w → wpDo P ops Q S T l a w → K' a w) → if Region.wanted o (yielded ops a.tmps) = true then Oper.wp P o a w K' Q else K' (a.put o.dst undef) w

theorem wpTake_cons {K : Act → Prop} {o : Oper} {l : List Oper} {a : Act} (v : Value) (hw : Region.wanted o (yielded ops a.tmps) = true) (hv : ∀ w, S w → (execOp a.eval o).run P w = .ok (.value v) w) (h : wpTake P ops S K l (a.put o.dst v)) : wpTake P ops S K (o :: l) a :=
  ⟨v, .inl ⟨hw, hv⟩, h⟩
theorem wpTake_nil {K : Act → Prop} {a : Act} (h : K a) : wpTake P ops S K [] a := h
theorem wpDo_nil {T : Act → World → Prop} {a : Act} {w : World} (h : T a w) : wpDo P ops Q S T [] a w := h

theorem headS_do {n : Nat} {T : Act → World → Prop} : ∀ (l : List Oper) (g k : Nat) (listed : Array Bool) (a : Act) (w : World), (∀ j, j < l.length → l[j]? = ops[k + j]?) → k + l.length = n →
    Region.seqB md ops (l.length + g) k listed = true → wpDo P ops Q S T l a w →
    HeadS P md ops Q S n (fun listed' a' w' => Region.seqB md ops g n listed' = true ∧ T a' w') l.length listed a w := by
  intro l
  induction l with
  | nil =>
    intro g k listed a w _ hk hB h
    obtain rfl : k = n := by simpa using hk
    exact ⟨by simpa using hB, h⟩
  | cons o l ih =>
    intro g k listed a w hl hk hB h
    have h0 : ops[k]? = some o := by simpa using (hl 0 (by simp)).symm
    rw [show (o :: l).length + g = (l.length + g) + 1 by simp only [List.length_cons]; omega] at hB
    simp only [Region.seqB, Bool.and_eq_true, decide_eq_true_eq] at hB
    have hkn : k < n := by simp only [List.length_cons] at hk; omega
    refine ⟨fun e => (by rw [hB.1] at e; cases e), fun i hi => ?_⟩
    rw [hB.1] at hi
    obtain rfl : i = k := by simpa using hi
    refine ⟨hkn, wpOp_step h0 (fun K' hK => h K' (fun a' w' hS hd => hK a' w' ⟨hS, ?_⟩))⟩
    exact ih g (i + 1) _ a' w' (fun j hj => by have := hl (j + 1) (by simp; omega); simpa [Nat.add_assoc, Nat.add_comm 1 j] using this) (by simp only [List.length_cons] at hk; omega) hB.2 hd

theorem headS_take {n g : Nat} {T : Act → World → Prop} {e : List Oper} (hsel : Region.noSelect ops = true) (hs : Region.sinkB md ops n = true) (hc : Region.chainB md ops n = true) (hn : n < ops.size)
    (hQ : ∀ c a d v w, Q (.panic c) (Act.put a d v) w → Q (.panic c) a w) (w : World) (hS : S w) :
    ∀ (l : List Oper) (k : Nat) (listed : Array Bool) (a : Act), (∀ j, j < l.length → l[j]? = ops[k + j]?) → (∀ j, j < e.length → e[j]? = ops[k + l.length + j]?) → k + l.length + e.length = n → HeadInv md ops n listed →
    Region.lexHead md ops (e.length + g) l.length k listed = true → wpTake P ops S (fun a' => wpDo P ops Q S T e a' w) l a →
    HeadS P md ops Q S n (fun listed' a' w' => Region.seqB md ops g n listed' = true ∧ T a' w') (l.length + e.length) listed a w := by
  intro l
  induction l with
  | nil =>
    intro k listed a _ he hk _ hB h
    rw [show ([] : List Oper).length + e.length = e.length by simp]
    exact headS_do e g k listed a w (fun j hj => by simpa using he j hj) (by simpa using hk) (by simpa [Region.lexHead] using hB) h
  | cons o l ih =>
    intro k listed a hl he hk inv hB h
    have h0 : ops[k]? = some o := by simpa using (hl 0 (by simp)).symm
    simp only [List.length_cons, Region.lexHead, Bool.and_eq_true] at hB
    have hkn : k < n := by simp only [List.length_cons] at hk; omega
    have hr : k ∈ Region.ready md ops listed := by simpa using hB.1.1
    obtain ⟨v, hy, hK⟩ := h
    rw [show (o :: l).length + e.length = (l.length + e.length) + 1 by simp only [List.length_cons]; omega]
    refine headS_first h0 (Region.noSelect_spec hsel) (fun c a w h => hQ c a _ _ w h) hs hc hn hkn (fun listed' a' w' hL => seqB_ready hL.1) (l.length + e.length) listed a w inv (Region.free_spec h0 hB.1.2) hr hy hS ?_
    exact ih (k + 1) _ _ (fun j hj => by have := hl (j + 1) (by simp; omega); simpa [Nat.add_assoc, Nat.add_comm 1 j] using this) (fun j hj => by have := he j hj; rw [this]; congr 1; simp only [List.length_cons]; omega) (by simp only [List.length_cons] at hk; omega) (inv.set hr hkn) hB.2 hK

def holdB (ops : Array Oper) (m n : Nat) : Bool :=
  Region.noSelect ops && decide (m ≤ n) && decide (n < ops.size) && Region.sinkB .any ops n && Region.chainB .any ops n && Region.lexHead .any ops (ops.size - m) m 0 (Array.replicate ops.size false)

/-- The first m operations read: their values are those of every world of S. Those up to n are done one behind the other, and keep S. What stands behind them is walked as a list. -/
theorem region_hold {id : Nat} {a : Act} {w : World} {l : List Oper} (m n : Nat) (hm : P.follows .mixedOrders = true) (hB : holdB l.toArray m n = true)
    (hQ : ∀ c a d v w, Q (.panic c) (Act.put a d v) w → Q (.panic c) a w) (hS : S w.drew)
    (h : S w.drew → wpTake P l.toArray S (fun a' => wpDo P l.toArray Q S (fun a'' w'' => wpList P l.toArray Q (l.drop n) a'' w'') ((l.take n).drop m) a' w.drew) (l.take m) a) : (Code.region id l.toArray true).wp P Q a w := by
  simp only [holdB, Bool.and_eq_true, decide_eq_true_eq] at hB
  obtain ⟨⟨⟨⟨⟨hsel, hmn⟩, hn⟩, hs⟩, hc⟩, hlex⟩ := hB
  have hn' : n < l.length := by simpa using hn
  have htl : (l.take m).length = m := by simp; omega
  have hel : ((l.take n).drop m).length = n - m := by simp; omega
  have hdl : (l.drop n).length = l.toArray.size - n := by simp
  have inv0 : HeadInv .any l.toArray n (Array.replicate l.toArray.size false) :=
    ⟨by simp, fun j oj _ hl => (by rw [getD_replicate_false] at hl; cases hl), fun t _ ht => getD_in (by simpa using ht) (getD_replicate_false _ _)⟩
  have H := headS_take (md := .any) (g := l.toArray.size - n) (T := fun a'' w'' => wpList P l.toArray Q (l.drop n) a'' w'') (e := (l.take n).drop m) hsel hs hc hn hQ w.drew hS (l.take m) 0 _ a (fun j hj => by
    rw [htl] at hj
    simp [hj]) (fun j hj => by
    rw [hel] at hj
    rw [htl, List.getElem?_drop, List.getElem?_take, if_pos (by omega)]
    simp) (by rw [htl, hel]; omega) inv0 (by rw [htl, hel, show n - m + (l.toArray.size - n) = l.toArray.size - m by omega]; exact hlex) (h hS)
  refine wp_region_any hm ?_
  have := any_of_headS (Q := Q) (g := l.toArray.size - n) (fun listed a' w' hL => by
    have := wpAny_of_seq (md := .any) (Q' := Q) (l.drop n) n listed a' w' (fun j => by simp [List.getElem?_drop]) (by rw [hdl]; exact hL.1) hL.2
    rwa [hdl] at this) _ _ _ _ H
  rw [htl, hel, show m + (n - m) + (l.toArray.size - n) = l.toArray.size by omega] at this
  exact this
end QT
end Go.Proofs.Ytdkfoakmjeealaa
end
section
/- A region that draws its order: the operations that read are taken first, wherever they stand in the list; the others come one behind the other, and keep what is read; what stands behind them has one order. (General: no program's text.) -/
namespace Go.Proofs.Ytdkfoakmjeealaa
open Go
namespace QT
variable {P : Program} {ops : Array Oper} {md : Region.Mode} {Q : Exit → Act → World → Prop} {S : World → Prop}

def pick (l : List Oper) (ps : List Nat) : List Oper := ps.filterMap fun i => l[i]?
def permE (md : Region.Mode) (ops : Array Oper) (g n : Nat) : List Nat → Array Bool → Bool
  | i :: es, listed => decide (Region.ready md ops listed = [i]) && decide (i < n) && decide (i < ops.size) && permE md ops g n es (listed.setIfInBounds i true)
  | [], listed => Region.seqB md ops g n listed
def permB (md : Region.Mode) (ops : Array Oper) (g n : Nat) (es : List Nat) : List Nat → Array Bool → Bool
  | i :: ps, listed => (Region.ready md ops listed).contains i && Region.free md ops listed i && decide (i < n) && permB md ops g n es ps (listed.setIfInBounds i true)
  | [], listed => permE md ops g n es listed

theorem pick_cons {l : List Oper} {i : Nat} {o : Oper} {ps : List Nat} (h : l[i]? = some o) : pick l (i :: ps) = o :: pick l ps := by
  unfold pick
  rw [List.filterMap_cons, h]
theorem headS_es {l : List Oper} {n g : Nat} {T : Act → World → Prop} : ∀ (es : List Nat) (listed : Array Bool) (a : Act) (w : World),
    permE md l.toArray g n es listed = true → wpDo P l.toArray Q S T (pick l es) a w →
    HeadS P md l.toArray Q S n (fun listed' a' w' => Region.seqB md l.toArray g n listed' = true ∧ T a' w') es.length listed a w := by
  intro es
  induction es with
  | nil => intro listed a w hB h; exact ⟨by simpa only [permE] using hB, h⟩
  | cons i es ih =>
    intro listed a w hB h
    simp only [permE, Bool.and_eq_true, decide_eq_true_eq] at hB
    obtain ⟨⟨⟨h1, h2⟩, h3⟩, h4⟩ := hB
    have hl : i < l.length := by simpa using h3
    have h0 : l[i]? = some l[i] := List.getElem?_eq_getElem hl
    rw [pick_cons h0] at h
    refine ⟨fun e => (by rw [h1] at e; cases e), fun j hj => ?_⟩
    rw [h1] at hj
    obtain rfl : j = i := by simpa using hj
    refine ⟨h2, wpOp_step (o := l[j]) (by simp) (fun K' hK => h K' (fun a' w' hS hd => hK a' w' ⟨hS, ih _ a' w' h4 hd⟩))⟩
theorem headS_ps {l : List Oper} {n g : Nat} {T : Act → World → Prop} {es : List Nat} (hsel : Region.noSelect l.toArray = true) (hs : Region.sinkB md l.toArray n = true) (hc : Region.chainB md l.toArray n = true) (hn : n < l.toArray.size)
    (hQ : ∀ c a d v w, Q (.panic c) (Act.put a d v) w → Q (.panic c) a w) (w : World) (hS : S w) :
    ∀ (ps : List Nat) (listed : Array Bool) (a : Act), HeadInv md l.toArray n listed → permB md l.toArray g n es ps listed = true →
    wpTake P l.toArray S (fun a' => wpDo P l.toArray Q S T (pick l es) a' w) (pick l ps) a →
    HeadS P md l.toArray Q S n (fun listed' a' w' => Region.seqB md l.toArray g n listed' = true ∧ T a' w') (ps.length + es.length) listed a w := by
  intro ps
  induction ps with
  | nil =>
    intro listed a _ hB h
    rw [show ([] : List Nat).length + es.length = es.length by simp]
    exact headS_es es listed a w hB h
  | cons i ps ih =>
    intro listed a inv hB h
    simp only [permB, Bool.and_eq_true, decide_eq_true_eq] at hB
    obtain ⟨⟨⟨h1, h2⟩, h3⟩, h4⟩ := hB
    have hr : i ∈ Region.ready md l.toArray listed := by simpa using h1
    obtain ⟨o, h0⟩ : ∃ o, l.toArray[i]? = some o := ⟨l.toArray[i]'(by omega), Array.getElem?_eq_getElem (by omega)⟩
    have h0' : l[i]? = some o := by simpa using h0
    rw [pick_cons h0'] at h
    obtain ⟨v, hy, hK⟩ := h
    rw [show (i :: ps).length + es.length = (ps.length + es.length) + 1 by simp only [List.length_cons]; omega]
    refine headS_first h0 (Region.noSelect_spec hsel) (fun c a w h => hQ c a _ _ w h) hs hc hn h3 (fun listed' a' w' hL => seqB_ready hL.1) (ps.length + es.length) listed a w inv (Region.free_spec h0 h2) hr hy hS ?_
    exact ih _ _ (inv.set hr h3) h4 hK
def pickB (ops : Array Oper) (ps es : List Nat) (n : Nat) : Bool :=
  Region.noSelect ops && decide (n < ops.size) && decide (ps.length + es.length = n) && Region.sinkB .any ops n && Region.chainB .any ops n && permB .any ops (ops.size - n) n es ps (Array.replicate ops.size false)
theorem region_pick {id : Nat} {a : Act} {w : World} {l : List Oper} (ps es : List Nat) (n : Nat) (hm : P.follows .mixedOrders = true) (hB : pickB l.toArray ps es n = true)
    (hQ : ∀ c a d v w, Q (.panic c) (Act.put a d v) w → Q (.panic c) a w) (hS : S w.drew)
    (h : S w.drew → wpTake P l.toArray S (fun a' => wpDo P l.toArray Q S (fun a'' w'' => wpList P l.toArray Q (l.drop n) a'' w'') (pick l es) a' w.drew) (pick l ps) a) : (Code.region id l.toArray true).wp P Q a w := by
  simp only [pickB, Bool.and_eq_true, decide_eq_true_eq] at hB
  obtain ⟨⟨⟨⟨⟨hsel, hn⟩, hlen⟩, hs⟩, hc⟩, hperm⟩ := hB
  have hn' : n < l.length := by simpa using hn
  have hdl : (l.drop n).length = l.toArray.size - n := by simp
  have inv0 : HeadInv .any l.toArray n (Array.replicate l.toArray.size false) :=
    ⟨by simp, fun j oj _ hl => (by rw [getD_replicate_false] at hl; cases hl), fun t _ ht => getD_in (by simpa using ht) (getD_replicate_false _ _)⟩
  have H := headS_ps (md := .any) (g := l.toArray.size - n) (T := fun a'' w'' => wpList P l.toArray Q (l.drop n) a'' w'') (es := es) hsel hs hc hn hQ w.drew hS ps _ a inv0 hperm (h hS)
  refine wp_region_any hm ?_
  have := any_of_headS (Q := Q) (g := l.toArray.size - n) (fun listed a' w' hL => by
    have := wpAny_of_seq (md := .any) (Q' := Q) (l.drop n) n listed a' w' (fun j => by simp [List.getElem?_drop]) (by rw [hdl]; exact hL.1) hL.2
    rwa [hdl] at this) _ _ _ _ H
  rw [hlen, show n + (l.toArray.size - n) = l.toArray.size by omega] at this
  exact this
end QT
end Go.Proofs.Ytdkfoakmjeealaa
end
section
/- A region that draws its order: operations that only read are taken wherever they stand free, also between those that do something; the latter come one behind the other, and keep what is read; what stands behind them has one order. (General: no program's text.) -/
namespace Go.Proofs.Ytdkfoakmjeealaa
open Go
namespace QT
variable {P : Program} {ops : Array Oper} {md : Region.Mode} {Q : Exit → Act → World → Prop} {S : World → Prop}

def pickM (l : List Oper) (ps : List (Bool × Nat)) : List (Bool × Oper) := ps.filterMap fun p => (l[p.2]?).map fun o => (p.1, o)
def mixE (md : Region.Mode) (ops : Array Oper) (g n : Nat) : List (Bool × Nat) → Array Bool → Bool
  | (true, i) :: l, listed => (Region.ready md ops listed).contains i && Region.free md ops listed i && decide (i < n) && mixE md ops g n l (listed.setIfInBounds i true)
  | (false, i) :: l, listed => decide (Region.ready md ops listed = [i]) && decide (i < n) && decide (i < ops.size) && mixE md ops g n l (listed.setIfInBounds i true)
  | [], listed => Region.seqB md ops g n listed
/-- What reads (true) and what does something (false), in the order given. -/
def wpMix (P : Program) (ops : Array Oper) (Q : Exit → Act → World → Prop) (S : World → Prop) (T : Act → World → Prop) : List (Bool × Oper) → Act → World → Prop
  | [], a, w => T a w
  | (true, o) :: l, a, w => ∃ v, YieldsIf P ops S o v a ∧ wpMix P ops Q S T l (a.put o.dst v) w
  | (false, o) :: l, a, w => ∀ K' : Act → World → Prop, Shut (∀ a w, S w → wpMix P ops Q S T l a w → K' a w) → if Region.wanted o (yielded ops a.tmps) = true then Oper.wp P o a w K' Q else K' (a.put o.dst undef) w

theorem wpMix_take {T : Act → World → Prop} {o : Oper} {l : List (Bool × Oper)} {a : Act} {w : World} (v : Value) (hw : Region.wanted o (yielded ops a.tmps) = true) (hv : ∀ w, S w → (execOp a.eval o).run P w = .ok (.value v) w) (h : wpMix P ops Q S T l (a.put o.dst v) w) : wpMix P ops Q S T ((true, o) :: l) a w :=
  ⟨v, .inl ⟨hw, hv⟩, h⟩
theorem wpMix_nil {T : Act → World → Prop} {a : Act} {w : World} (h : T a w) : wpMix P ops Q S T [] a w := h
theorem pickM_cons {l : List Oper} {b : Bool} {i : Nat} {o : Oper} {ps : List (Bool × Nat)} (h : l[i]? = some o) : pickM l ((b, i) :: ps) = (b, o) :: pickM l ps := by
  unfold pickM
  rw [List.filterMap_cons, h]
  rfl
theorem headS_mix {l : List Oper} {n g : Nat} {T : Act → World → Prop} (hsel : Region.noSelect l.toArray = true) (hs : Region.sinkB md l.toArray n = true) (hc : Region.chainB md l.toArray n = true) (hn : n < l.toArray.size)
    (hQ : ∀ c a d v w, Q (.panic c) (Act.put a d v) w → Q (.panic c) a w) :
    ∀ (ps : List (Bool × Nat)) (listed : Array Bool) (a : Act) (w : World), S w → HeadInv md l.toArray n listed → mixE md l.toArray g n ps listed = true →
    wpMix P l.toArray Q S T (pickM l ps) a w →
    HeadS P md l.toArray Q S n (fun listed' a' w' => Region.seqB md l.toArray g n listed' = true ∧ T a' w') ps.length listed a w := by
  intro ps
  induction ps with
  | nil => intro listed a w _ _ hB h; exact ⟨by simpa only [mixE] using hB, h⟩
  | cons p ps ih =>
    intro listed a w hS inv hB h
    obtain ⟨b, i⟩ := p
    cases b with
    | true =>
      simp only [mixE, Bool.and_eq_true, decide_eq_true_eq] at hB
      obtain ⟨⟨⟨h1, h2⟩, h3⟩, h4⟩ := hB
      have hr : i ∈ Region.ready md l.toArray listed := by simpa using h1
      obtain ⟨o, h0⟩ : ∃ o, l.toArray[i]? = some o := ⟨l.toArray[i]'(by omega), Array.getElem?_eq_getElem (by omega)⟩
      have h0' : l[i]? = some o := by simpa using h0
      rw [pickM_cons h0'] at h
      obtain ⟨v, hy, hK⟩ := h
      rw [show ((true, i) :: ps).length = ps.length + 1 from rfl]
      refine headS_first h0 (Region.noSelect_spec hsel) (fun c a w h => hQ c a _ _ w h) hs hc hn h3 (fun listed' a' w' hL => seqB_ready hL.1) ps.length listed a w inv (Region.free_spec h0 h2) hr hy hS ?_
      exact ih _ _ _ hS (inv.set hr h3) h4 hK
    | false =>
      simp only [mixE, Bool.and_eq_true, decide_eq_true_eq] at hB
      obtain ⟨⟨⟨h1, h2⟩, h3⟩, h4⟩ := hB
      have hl : i < l.length := by simpa using h3
      have h0 : l[i]? = some l[i] := List.getElem?_eq_getElem hl
      rw [pickM_cons h0] at h
      refine ⟨fun e => (by rw [h1] at e; cases e), fun j hj => ?_⟩
      have hjr := hj
      rw [h1] at hj
      obtain rfl : j = i := by simpa using hj
      refine ⟨h2, wpOp_step (o := l[j]) (by simp) (fun K' hK => h K' (fun a' w' hS' hd => hK a' w' ⟨hS', ih _ a' w' hS' (inv.set hjr h2) h4 hd⟩))⟩
def mixB (ops : Array Oper) (ps : List (Bool × Nat)) (n : Nat) : Bool :=
  Region.noSelect ops && decide (n < ops.size) && decide (ps.length = n) && Region.sinkB .any ops n && Region.chainB .any ops n && mixE .any ops (ops.size - n) n ps (Array.replicate ops.size false)
theorem region_mix {id : Nat} {a : Act} {w : World} {l : List Oper} (ps : List (Bool × Nat)) (n : Nat) (hm : P.follows .mixedOrders = true) (hB : mixB l.toArray ps n = true)
    (hQ : ∀ c a d v w, Q (.panic c) (Act.put a d v) w → Q (.panic c) a w) (hS : S w.drew)
    (h : S w.drew → wpMix P l.toArray Q S (fun a'' w'' => wpList P l.toArray Q (l.drop n) a'' w'') (pickM l ps) a w.drew) : (Code.region id l.toArray true).wp P Q a w := by
  simp only [mixB, Bool.and_eq_true, decide_eq_true_eq] at hB
  obtain ⟨⟨⟨⟨⟨hsel, hn⟩, hlen⟩, hs⟩, hc⟩, hperm⟩ := hB
  have hdl : (l.drop n).length = l.toArray.size - n := by simp
  have inv0 : HeadInv .any l.toArray n (Array.replicate l.toArray.size false) :=
    ⟨by simp, fun j oj _ hl => (by rw [getD_replicate_false] at hl; cases hl), fun t _ ht => getD_in (by simpa using ht) (getD_replicate_false _ _)⟩
  have H := headS_mix (md := .any) (g := l.toArray.size - n) (T := fun a'' w'' => wpList P l.toArray Q (l.drop n) a'' w'') hsel hs hc hn hQ ps _ a w.drew hS inv0 hperm (h hS)
  refine wp_region_any hm ?_
  have := any_of_headS (Q := Q) (g := l.toArray.size - n) (fun listed a' w' hL => by
    have := wpAny_of_seq (md := .any) (Q' := Q) (l.drop n) n listed a' w' (fun j => by simp [List.getElem?_drop]) (by rw [hdl]; exact hL.1) hL.2
    rwa [hdl] at this) _ _ _ _ H
  rw [hlen, show n + (l.toArray.size - n) = l.toArray.size by omega] at this
  exact this
end QT
end Go.Proofs.Ytdkfoakmjeealaa
end
section
/- A region that draws its order: reads and calls that only make memory come first, in any order; what stands behind them has one order. (General: no program's text.) -/
namespace Go.Proofs.Ytdkfoakmjeealaa
open Go Go.RowKit Go.Sort
namespace QT
variable {P : Program} {ops : Array Oper} {md : Region.Mode} {C : World → Prop}

/-- Whatever order is picked for the first n operations. -/
def Head (P : Program) (md : Region.Mode) (ops : Array Oper) (C : World → Prop) (n : Nat) (L : Array Bool → Act → Prop) : Nat → Array Bool → Act → Prop
  | 0, listed, a => L listed a
  | f + 1, listed, a => Region.ready md ops listed ≠ [] ∧ ∀ i ∈ Region.ready md ops listed, i < n ∧ qOp P ops C i (Head P md ops C n L f (listed.setIfInBounds i true)) a

theorem any_of_head {n g : Nat} {L : Array Bool → Act → Prop} {Q : Exit → Act → World → Prop} (hL : ∀ listed a w, C w → L listed a → wpAny P md ops Q g listed a w) :
    ∀ (f : Nat) (listed : Array Bool) (a : Act) (w : World), C w → Head P md ops C n L f listed a → wpAny P md ops Q (f + g) listed a w := by
  intro f
  induction f with
  | zero => intro listed a w hw h; rw [Nat.zero_add]; exact hL _ _ _ hw h
  | succ f ih =>
    intro listed a w hw h
    rw [show f + 1 + g = (f + g) + 1 by omega]
    exact ⟨fun h0 => absurd h0 h.1, fun i hi => wpOp_of_qOp hw (fun a' w' hw' h' => ih _ a' w' hw' h') (h.2 i hi).2⟩

theorem head_first {n i : Nat} {oi : Oper} {v : Value} {L : Array Bool → Act → Prop} (hi : ops[i]? = some oi) (hsel : ∀ (j : Nat) (o : Oper) cs b, ops[j]? = some o → o.op ≠ .select cs b)
    (hs : Region.sinkB md ops n = true) (hc : Region.chainB md ops n = true) (hn : n < ops.size) (hin : i < n)
    (hdone : ∀ listed a, L listed a → ∀ j ∈ Region.ready md ops listed, n ≤ j) :
    ∀ (f : Nat) (listed : Array Bool) (a : Act), HeadInv md ops n listed →
      (∀ j oj, ops[j]? = some oj → j ≠ i → listed.getD j true = false → (∀ e ∈ oj.after, Region.binds md e = true → e.on ≠ i) → oi.apart ops oj = true) →
      i ∈ Region.ready md ops listed → YieldsIn P ops C oi v a →
      Head P md ops C n L f (listed.setIfInBounds i true) (a.put oi.dst v) → Head P md ops C n L (f + 1) listed a := by
  intro f
  induction f with
  | zero =>
    intro listed a inv _ hr hy H
    have hun := (mem_ready.1 hr).1
    refine ⟨fun h => (by rw [h] at hr; cases hr), fun j hj => ?_⟩
    have hjn : j < n := Nat.lt_of_not_le fun h => tail_waits hs hc hn inv _ i rfl hin hun j h hj
    refine ⟨hjn, ?_⟩
    by_cases e : j = i
    · subst e; exact hy.qOp hi H
    · have := hdone _ _ H j (ready_mono hj e)
      omega
  | succ f ih =>
    intro listed a inv hfree hr hy H
    have hun := (mem_ready.1 hr).1
    refine ⟨fun h => (by rw [h] at hr; cases hr), fun j hj => ?_⟩
    have hjn : j < n := Nat.lt_of_not_le fun h => tail_waits hs hc hn inv _ i rfl hin hun j h hj
    refine ⟨hjn, ?_⟩
    by_cases e : j = i
    · subst e; exact hy.qOp hi H
    · obtain ⟨hjun, oj, hoj, hall⟩ := mem_ready.1 hj
      have hnot : ∀ e ∈ oj.after, Region.binds md e = true → e.on ≠ i := fun e he hb heq => by
        have h1 := hall e he hb
        rw [heq, getD_both hun] at h1
        cases h1
      have h2 := qOp_put hoj (hfree j oj hoj e hjun hnot) (fun cs b => hsel i oi cs b hi) (fun cs b => hsel j oj cs b hoj) hy (H.2 j (ready_mono hj e)).2
      refine qOp_mono (fun a' h3 => ih _ a' (inv.set hj hjn) (fun k ok hk hki hku hno => ?_) (ready_mono hr (Ne.symm e)) h3.1 ?_) h2
      · refine hfree k ok hk hki ?_ hno
        by_cases hjk : j = k
        · subst hjk; exact hjun
        · rw [getD_set_ne true hjk] at hku; exact hku
      · rw [Array.setIfInBounds_comm _ _ e]
        exact h3.2

theorem head_lex {n g : Nat} {Lq : Act → Prop} (hsel : Region.noSelect ops = true) (hs : Region.sinkB md ops n = true) (hc : Region.chainB md ops n = true) (hn : n < ops.size) :
    ∀ (l : List Oper) (k : Nat) (listed : Array Bool) (a : Act), (∀ j, j < l.length → l[j]? = ops[k + j]?) → k + l.length = n → HeadInv md ops n listed →
    Region.lexHead md ops g l.length k listed = true → wpQuiet P ops C Lq l a →
    Head P md ops C n (fun listed' a' => Region.seqB md ops g n listed' = true ∧ Lq a') l.length listed a := by
  intro l
  induction l with
  | nil =>
    intro k listed a _ hk _ hB h
    obtain rfl : k = n := by simpa using hk
    exact ⟨by simpa [Region.lexHead] using hB, h⟩
  | cons o l ih =>
    intro k listed a hl hk inv hB h
    have h0 : ops[k]? = some o := by simpa using (hl 0 (by simp)).symm
    simp only [List.length_cons, Region.lexHead, Bool.and_eq_true] at hB
    have hkn : k < n := by simp only [List.length_cons] at hk; omega
    have hr : k ∈ Region.ready md ops listed := by simpa using hB.1.1
    have hst : qOp P ops C k (wpQuiet P ops C Lq l) a := by unfold qOp; simp only [h0]; exact h
    obtain ⟨v, hy, hK⟩ := yieldsIn_of_qOp h0 hst
    refine head_first h0 (Region.noSelect_spec hsel) hs hc hn hkn (fun listed' a' hL => seqB_ready hL.1) l.length listed a inv (Region.free_spec h0 hB.1.2) hr hy ?_
    exact ih (k + 1) _ _ (fun j hj => by have := hl (j + 1) (by simp; omega); simpa [Nat.add_assoc, Nat.add_comm 1 j] using this) (by simp only [List.length_cons] at hk; omega) (inv.set hr hkn) hB.2 hK

/-- The first n operations read, or call what only makes memory: they are walked once. What stands behind them is walked as a list, in whatever world they leave. -/
theorem region_tail {id : Nat} {Q : Exit → Act → World → Prop} {a : Act} {w : World} {l : List Oper} (n : Nat) (hm : P.follows .mixedOrders = true) (hB : Region.lexTailB .any l.toArray n = true)
    (h : wpQuiet P l.toArray (fun w' => ∃ p : Regrown, w' = grow (redrawn w p.d) p.os) (fun a' => ∀ w', (∃ p : Regrown, w' = grow (redrawn w p.d) p.os) → wpList P l.toArray Q (l.drop n) a' w') (l.take n) a) : (Code.region id l.toArray true).wp P Q a w := by
  simp only [Region.lexTailB, Bool.and_eq_true, decide_eq_true_eq] at hB
  obtain ⟨⟨⟨⟨hsel, hn⟩, hs⟩, hc⟩, hlex⟩ := hB
  have hn' : n < l.length := by simpa using hn
  have htl : (l.take n).length = n := by simp; omega
  have hdl : (l.drop n).length = l.toArray.size - n := by simp
  have inv0 : HeadInv .any l.toArray n (Array.replicate l.toArray.size false) :=
    ⟨by simp, fun j oj _ hl => (by rw [getD_replicate_false] at hl; cases hl), fun t _ ht => getD_in (by simpa using ht) (getD_replicate_false _ _)⟩
  have H := head_lex (md := .any) (g := l.toArray.size - n) hsel hs hc hn (l.take n) 0 _ a (fun j hj => by
    rw [htl] at hj
    simp [hj]) (by simpa using htl) inv0 (by rw [htl]; exact hlex) h
  refine wp_region_any hm ?_
  have := any_of_head (Q := Q) (g := l.toArray.size - n) (fun listed a' w' hw' hL => by
    have := wpAny_of_seq (md := .any) (Q' := Q) (l.drop n) n listed a' w' (fun j => by simp [List.getElem?_drop]) (by rw [hdl]; exact hL.1) (hL.2 w' hw')
    rwa [hdl] at this) _ _ _ { w with drawn := w.drawn + 1 } ⟨⟨w.drawn + 1, #[]⟩, by rw [grow_empty]; rfl⟩ H
  rw [htl, show n + (l.toArray.size - n) = l.toArray.size by omega] at this
  exact this
end QT
end Go.Proofs.Ytdkfoakmjeealaa
end
section
/- A region that draws its order: the operations that read are taken first, wherever they stand in the list; of the others one or two may come up at a time, whichever is picked; what stands behind them has one order. (General: no program's text.) -/
namespace Go.Proofs.Ytdkfoakmjeealaa
open Go
namespace QT
variable {P : Program} {ops : Array Oper} {md : Region.Mode} {Q : Exit → Act → World → Prop} {S : World → Prop}

def forkB (md : Region.Mode) (ops : Array Oper) (n : Nat) : List Nat → Array Bool → Bool
  | i :: ps, listed => (Region.ready md ops listed).contains i && Region.free md ops listed i && decide (i < n) && forkB md ops n ps (listed.setIfInBounds i true)
  | [], _ => true
def marks : List Nat → Array Bool → Array Bool
  | i :: ps, listed => marks ps (listed.setIfInBounds i true)
  | [], listed => listed
/-- k operations more, whichever is picked; then the tail. -/
def Fork (P : Program) (md : Region.Mode) (ops : Array Oper) (Q : Exit → Act → World → Prop) (S : World → Prop) (n : Nat) (T : Act → World → Prop) (k : Nat) (listed : Array Bool) (a : Act) (w : World) : Prop :=
  HeadS P md ops Q S n (fun listed' a' w' => Region.seqB md ops (ops.size - n) n listed' = true ∧ T a' w') k listed a w

theorem fork_nil {n : Nat} {T : Act → World → Prop} {listed : Array Bool} {a : Act} {w : World} (hB : Region.seqB md ops (ops.size - n) n listed = true) (h : T a w) : Fork P md ops Q S n T 0 listed a w := ⟨hB, h⟩
theorem fork_one {n k : Nat} {T : Act → World → Prop} {listed : Array Bool} {a : Act} {w : World} (i : Nat) (o : Oper) (h0 : ops[i]? = some o) (hr : (Region.ready md ops listed == [i] && decide (i < n)) = true)
    (h : ∀ K' : Act → World → Prop, Shut (∀ a' w', S w' → Fork P md ops Q S n T k (listed.setIfInBounds i true) a' w' → K' a' w') → if Region.wanted o (yielded ops a.tmps) = true then Oper.wp P o a w K' Q else K' (a.put o.dst undef) w) : Fork P md ops Q S n T (k + 1) listed a w := by
  simp only [Bool.and_eq_true, decide_eq_true_eq, beq_iff_eq] at hr
  obtain ⟨h1, h2⟩ := hr
  refine ⟨fun e => (by rw [h1] at e; cases e), fun j hj => ?_⟩
  rw [h1] at hj
  obtain rfl : j = i := by simpa using hj
  exact ⟨h2, wpOp_step h0 (fun K' hK => h K' (fun a' w' hS hd => hK a' w' ⟨hS, hd⟩))⟩
theorem fork_two {n k : Nat} {T : Act → World → Prop} {listed : Array Bool} {a : Act} {w : World} (i i2 : Nat) (o o2 : Oper) (h0 : ops[i]? = some o) (h02 : ops[i2]? = some o2) (hr : (Region.ready md ops listed == [i, i2] && decide (i < n) && decide (i2 < n)) = true)
    (h : ∀ K' : Act → World → Prop, Shut (∀ a' w', S w' → Fork P md ops Q S n T k (listed.setIfInBounds i true) a' w' → K' a' w') → if Region.wanted o (yielded ops a.tmps) = true then Oper.wp P o a w K' Q else K' (a.put o.dst undef) w)
    (h' : ∀ K' : Act → World → Prop, Shut (∀ a' w', S w' → Fork P md ops Q S n T k (listed.setIfInBounds i2 true) a' w' → K' a' w') → if Region.wanted o2 (yielded ops a.tmps) = true then Oper.wp P o2 a w K' Q else K' (a.put o2.dst undef) w) : Fork P md ops Q S n T (k + 1) listed a w := by
  simp only [Bool.and_eq_true, decide_eq_true_eq, beq_iff_eq] at hr
  obtain ⟨⟨h1, h2⟩, h3⟩ := hr
  refine ⟨fun e => (by rw [h1] at e; cases e), fun j hj => ?_⟩
  rw [h1] at hj
  simp only [List.mem_cons, List.not_mem_nil, or_false] at hj
  rcases hj with e | e
  · subst e
    exact ⟨h2, wpOp_step h0 (fun K' hK => h K' (fun a' w' hS hd => hK a' w' ⟨hS, hd⟩))⟩
  · subst e
    exact ⟨h3, wpOp_step h02 (fun K' hK => h' K' (fun a' w' hS hd => hK a' w' ⟨hS, hd⟩))⟩
theorem headS_fork {l : List Oper} {n k : Nat} {T : Act → World → Prop} (hsel : Region.noSelect l.toArray = true) (hs : Region.sinkB md l.toArray n = true) (hc : Region.chainB md l.toArray n = true) (hn : n < l.toArray.size)
    (hQ : ∀ c a d v w, Q (.panic c) (Act.put a d v) w → Q (.panic c) a w) (w : World) (hS : S w) :
    ∀ (ps : List Nat) (listed : Array Bool) (a : Act), HeadInv md l.toArray n listed → forkB md l.toArray n ps listed = true →
    wpTake P l.toArray S (fun a' => Fork P md l.toArray Q S n T k (marks ps listed) a' w) (pick l ps) a →
    HeadS P md l.toArray Q S n (fun listed' a' w' => Region.seqB md l.toArray (l.toArray.size - n) n listed' = true ∧ T a' w') (ps.length + k) listed a w := by
  intro ps
  induction ps with
  | nil =>
    intro listed a _ _ h
    rw [show ([] : List Nat).length + k = k by simp]
    exact h
  | cons i ps ih =>
    intro listed a inv hB h
    simp only [forkB, Bool.and_eq_true, decide_eq_true_eq] at hB
    obtain ⟨⟨⟨h1, h2⟩, h3⟩, h4⟩ := hB
    have hr : i ∈ Region.ready md l.toArray listed := by simpa using h1
    obtain ⟨o, h0⟩ : ∃ o, l.toArray[i]? = some o := ⟨l.toArray[i]'(by omega), Array.getElem?_eq_getElem (by omega)⟩
    have h0' : l[i]? = some o := by simpa using h0
    rw [pick_cons h0'] at h
    obtain ⟨v, hy, hK⟩ := h
    rw [show (i :: ps).length + k = (ps.length + k) + 1 by simp only [List.length_cons]; omega]
    refine headS_first h0 (Region.noSelect_spec hsel) (fun c a w h => hQ c a _ _ w h) hs hc hn h3 (fun listed' a' w' hL => seqB_ready hL.1) (ps.length + k) listed a w inv (Region.free_spec h0 h2) hr hy hS ?_
    exact ih _ _ (inv.set hr h3) h4 hK
def forksB (ops : Array Oper) (ps : List Nat) (k n : Nat) : Bool :=
  Region.noSelect ops && decide (n < ops.size) && decide (ps.length + k = n) && Region.sinkB .any ops n && Region.chainB .any ops n && forkB .any ops n ps (Array.replicate ops.size false)
theorem region_fork {id : Nat} {a : Act} {w : World} {l : List Oper} (ps : List Nat) (k n : Nat) (hm : P.follows .mixedOrders = true) (hB : forksB l.toArray ps k n = true)
    (hQ : ∀ c a d v w, Q (.panic c) (Act.put a d v) w → Q (.panic c) a w) (hS : S w.drew)
    (h : S w.drew → wpTake P l.toArray S (fun a' => Fork P .any l.toArray Q S n (fun a'' w'' => wpList P l.toArray Q (l.drop n) a'' w'') k (marks ps (Array.replicate l.toArray.size false)) a' w.drew) (pick l ps) a) : (Code.region id l.toArray true).wp P Q a w := by
  simp only [forksB, Bool.and_eq_true, decide_eq_true_eq] at hB
  obtain ⟨⟨⟨⟨⟨hsel, hn⟩, hlen⟩, hs⟩, hc⟩, hperm⟩ := hB
  have hn' : n < l.length := by simpa using hn
  have hdl : (l.drop n).length = l.toArray.size - n := by simp
  have inv0 : HeadInv .any l.toArray n (Array.replicate l.toArray.size false) :=
    ⟨by simp, fun j oj _ hl => (by rw [getD_replicate_false] at hl; cases hl), fun t _ ht => getD_in (by simpa using ht) (getD_replicate_false _ _)⟩
  have H := headS_fork (md := .any) (T := fun a'' w'' => wpList P l.toArray Q (l.drop n) a'' w'') (k := k) hsel hs hc hn hQ w.drew hS ps _ a inv0 hperm (h hS)
  refine wp_region_any hm ?_
  have := any_of_headS (Q := Q) (g := l.toArray.size - n) (fun listed a' w' hL => by
    have := wpAny_of_seq (md := .any) (Q' := Q) (l.drop n) n listed a' w' (fun j => by simp [List.getElem?_drop]) (by rw [hdl]; exact hL.1) hL.2
    rwa [hdl] at this) _ _ _ _ H
  rw [hlen, show n + (l.toArray.size - n) = l.toArray.size by omega] at this
  exact this
end QT
end Go.Proofs.Ytdkfoakmjeealaa
end
section
/- A region that draws its order: reads ahead, then operations of which one or two may come up at a time, and between these operations that only read, taken whenever they are ready; the tail has one order. (General: no program's text.) -/
namespace Go.Proofs.Ytdkfoakmjeealaa
open Go
namespace QT
variable {P : Program} {ops : Array Oper} {md : Region.Mode} {Q : Exit → Act → World → Prop} {S : World → Prop}

def ForkI (P : Program) (md : Region.Mode) (ops : Array Oper) (Q : Exit → Act → World → Prop) (S : World → Prop) (n : Nat) (T : Act → World → Prop) (k : Nat) (listed : Array Bool) (a : Act) (w : World) : Prop :=
  HeadInv md ops n listed → Fork P md ops Q S n T k listed a w
theorem forkI_nil {n : Nat} {T : Act → World → Prop} {listed : Array Bool} {a : Act} {w : World} (hB : Region.seqB md ops (ops.size - n) n listed = true) (h : T a w) : ForkI P md ops Q S n T 0 listed a w := fun _ => ⟨hB, h⟩
theorem forkI_one {n k : Nat} {T : Act → World → Prop} {listed : Array Bool} {a : Act} {w : World} (i : Nat) (o : Oper) (h0 : ops[i]? = some o) (hr : (Region.ready md ops listed == [i] && decide (i < n)) = true)
    (h : ∀ K' : Act → World → Prop, Shut (∀ a' w', S w' → ForkI P md ops Q S n T k (listed.setIfInBounds i true) a' w' → K' a' w') → if Region.wanted o (yielded ops a.tmps) = true then Oper.wp P o a w K' Q else K' (a.put o.dst undef) w) : ForkI P md ops Q S n T (k + 1) listed a w := fun inv => by
  have hr' := hr
  simp only [Bool.and_eq_true, decide_eq_true_eq, beq_iff_eq] at hr'
  obtain ⟨h1, h2⟩ := hr'
  have hm : i ∈ Region.ready md ops listed := by rw [h1]; simp
  exact fork_one i o h0 hr (fun K' hK => h K' (fun a' w' hS hF => hK.out a' w' hS (hF (inv.set hm h2))))
theorem forkI_two {n k : Nat} {T : Act → World → Prop} {listed : Array Bool} {a : Act} {w : World} (i i2 : Nat) (o o2 : Oper) (h0 : ops[i]? = some o) (h02 : ops[i2]? = some o2) (hr : (Region.ready md ops listed == [i, i2] && decide (i < n) && decide (i2 < n)) = true)
    (h : ∀ K' : Act → World → Prop, Shut (∀ a' w', S w' → ForkI P md ops Q S n T k (listed.setIfInBounds i true) a' w' → K' a' w') → if Region.wanted o (yielded ops a.tmps) = true then Oper.wp P o a w K' Q else K' (a.put o.dst undef) w)
    (h' : ∀ K' : Act → World → Prop, Shut (∀ a' w', S w' → ForkI P md ops Q S n T k (listed.setIfInBounds i2 true) a' w' → K' a' w') → if Region.wanted o2 (yielded ops a.tmps) = true then Oper.wp P o2 a w K' Q else K' (a.put o2.dst undef) w) : ForkI P md ops Q S n T (k + 1) listed a w := fun inv => by
  have hr' := hr
  simp only [Bool.and_eq_true, decide_eq_true_eq, beq_iff_eq] at hr'
  obtain ⟨⟨h1, h2⟩, h3⟩ := hr'
  have hm : i ∈ Region.ready md ops listed := by rw [h1]; simp
  have hm2 : i2 ∈ Region.ready md ops listed := by rw [h1]; simp
  exact fork_two i i2 o o2 h0 h02 hr (fun K' hK => h K' (fun a' w' hS hF => hK.out a' w' hS (hF (inv.set hm h2)))) (fun K' hK => h' K' (fun a' w' hS hF => hK.out a' w' hS (hF (inv.set hm2 h3))))
def takeB (md : Region.Mode) (ops : Array Oper) (n : Nat) (listed : Array Bool) (i : Nat) : Bool :=
  Region.noSelect ops && decide (n < ops.size) && Region.sinkB md ops n && Region.chainB md ops n && (Region.ready md ops listed).contains i && Region.free md ops listed i && decide (i < n)
/-- An operation that only reads, taken when it is ready. -/
theorem forkI_take {n k : Nat} {T : Act → World → Prop} {listed : Array Bool} {a : Act} {w : World} (i : Nat) (o : Oper) (v : Value) (h0 : ops[i]? = some o) (hB : takeB md ops n listed i = true)
    (hQ : ∀ c a d v w, Q (.panic c) (Act.put a d v) w → Q (.panic c) a w) (hS : S w) (hw : Region.wanted o (yielded ops a.tmps) = true) (hv : ∀ w, S w → (execOp a.eval o).run P w = .ok (.value v) w)
    (h : ForkI P md ops Q S n T k (listed.setIfInBounds i true) (a.put o.dst v) w) : ForkI P md ops Q S n T (k + 1) listed a w := fun inv => by
  simp only [takeB, Bool.and_eq_true, decide_eq_true_eq] at hB
  obtain ⟨⟨⟨⟨⟨⟨hsel, hn⟩, hs⟩, hc⟩, h1⟩, h2⟩, h3⟩ := hB
  have hr : i ∈ Region.ready md ops listed := by simpa using h1
  refine headS_first h0 (Region.noSelect_spec hsel) (fun c a w h => hQ c a _ _ w h) hs hc hn h3 (fun listed' a' w' hL => seqB_ready hL.1) k listed a w inv (Region.free_spec h0 h2) hr ?_ hS (h (inv.set hr h3))
  exact .inl ⟨hw, hv⟩
theorem headS_forkI {l : List Oper} {n k : Nat} {T : Act → World → Prop} (hsel : Region.noSelect l.toArray = true) (hs : Region.sinkB md l.toArray n = true) (hc : Region.chainB md l.toArray n = true) (hn : n < l.toArray.size)
    (hQ : ∀ c a d v w, Q (.panic c) (Act.put a d v) w → Q (.panic c) a w) (w : World) (hS : S w) :
    ∀ (ps : List Nat) (listed : Array Bool) (a : Act), HeadInv md l.toArray n listed → forkB md l.toArray n ps listed = true →
    wpTake P l.toArray S (fun a' => ForkI P md l.toArray Q S n T k (marks ps listed) a' w) (pick l ps) a →
    HeadS P md l.toArray Q S n (fun listed' a' w' => Region.seqB md l.toArray (l.toArray.size - n) n listed' = true ∧ T a' w') (ps.length + k) listed a w := by
  intro ps
  induction ps with
  | nil =>
    intro listed a inv _ h
    rw [show ([] : List Nat).length + k = k by simp]
    exact h inv
  | cons i ps ih =>
    intro listed a inv hB h
    simp only [forkB, Bool.and_eq_true, decide_eq_true_eq] at hB
    obtain ⟨⟨⟨h1, h2⟩, h3⟩, h4⟩ := hB
    have hr : i ∈ Region.ready md l.toArray listed := by simpa using h1
    obtain ⟨o, h0⟩ : ∃ o, l.toArray[i]? = some o := ⟨l.toArray[i]'(by omega), Array.getElem?_eq_getElem (by omega)⟩
    have h0' : l[i]? = some o := by simpa using h0
    rw [pick_cons h0'] at h
    obtain ⟨v, hy, hK⟩ := h
    rw [show (i :: ps).length + k = (ps.length + k) + 1 by simp only [List.length_cons]; omega]
    refine headS_first h0 (Region.noSelect_spec hsel) (fun c a w h => hQ c a _ _ w h) hs hc hn h3 (fun listed' a' w' hL => seqB_ready hL.1) (ps.length + k) listed a w inv (Region.free_spec h0 h2) hr hy hS ?_
    exact ih _ _ (inv.set hr h3) h4 hK
theorem region_forkI {id : Nat} {a : Act} {w : World} {l : List Oper} (ps : List Nat) (k n : Nat) (hm : P.follows .mixedOrders = true) (hB : forksB l.toArray ps k n = true)
    (hQ : ∀ c a d v w, Q (.panic c) (Act.put a d v) w → Q (.panic c) a w) (hS : S w.drew)
    (h : S w.drew → wpTake P l.toArray S (fun a' => ForkI P .any l.toArray Q S n (fun a'' w'' => wpList P l.toArray Q (l.drop n) a'' w'') k (marks ps (Array.replicate l.toArray.size false)) a' w.drew) (pick l ps) a) : (Code.region id l.toArray true).wp P Q a w := by
  simp only [forksB, Bool.and_eq_true, decide_eq_true_eq] at hB
  obtain ⟨⟨⟨⟨⟨hsel, hn⟩, hlen⟩, hs⟩, hc⟩, hperm⟩ := hB
  have hn' : n < l.length := by simpa using hn
  have hdl : (l.drop n).length = l.toArray.size - n := by simp
  have inv0 : HeadInv .any l.toArray n (Array.replicate l.toArray.size false) :=
    ⟨by simp, fun j oj _ hl => (by rw [getD_replicate_false] at hl; cases hl), fun t _ ht => getD_in (by simpa using ht) (getD_replicate_false _ _)⟩
  have H := headS_forkI (md := .any) (T := fun a'' w'' => wpList P l.toArray Q (l.drop n) a'' w'') (k := k) hsel hs hc hn hQ w.drew hS ps _ a inv0 hperm (h hS)
  refine wp_region_any hm ?_
  have := any_of_headS (Q := Q) (g := l.toArray.size - n) (fun listed a' w' hL => by
    have := wpAny_of_seq (md := .any) (Q' := Q) (l.drop n) n listed a' w' (fun j => by simp [List.getElem?_drop]) (by rw [hdl]; exact hL.1) hL.2
    rwa [hdl] at this) _ _ _ _ H
  rw [hlen, show n + (l.toArray.size - n) = l.toArray.size by omega] at this
  exact this
end QT
end Go.Proofs.Ytdkfoakmjeealaa
end
