/- DiskStamps answers true for every list of nodes, every weather and every list of calls, of bulk at most 1048576; they read behind the call as they read before. Condition: Go's two tables utf8.first and utf8.acceptRanges lie as Go's text lays them (tied to that text). -/
import Derived.Test.YtjkikkpbeceeeaaGreatDoorMg2
import Derived.Test.YtjkikkpbeceeeaaGreatDoorMg4
import Derived.Test.YtjkikkpbeceeeaaGreatDoorQHold
import Derived.Test.YtjkikkpbeceeeaaGreatDoorTreeRef4
import Derived.Test.YtjkikkpbeceeeaaGreatDoorDkArg
import Derived.Test.YtjkikkpbeceeeaaGreatDoorArg
import Derived.Test.YtjkikkpbeceeeaaGreatDoorKit
import Derived.Test.YtjkikkpbeceeeaaGreatDoorCards
import Derived.Test.YtjkikkpbeceeeaaGreatDoorTie
section
/- A region that draws its order: the operations that read are taken first, wherever they stand in the list; the others come one behind the other, and keep what is read; what stands behind them has one order. (General: no program's text.) -/
namespace Go.Proofs.YtjkikkpbeceeeaaGreatDoor
open Go
namespace QT
variable {P : Program} {ops : Array Oper} {md : Region.Mode} {Q : Exit → Act → World → Prop} {S : World → Prop}

def pick (l : List Oper) (ps : List Nat) : List Oper := ps.filterMap fun i => l[i]?
def permE (md : Region.Mode) (ops : Array Oper) (g n : Nat) : List Nat → Array Bool → Bool
  | i :: es, listed => decide (Region.ready md ops listed = [i]) && decide (i < n) && decide (i < ops.size) && permE md ops g n es (listed.setIfInBounds i true)
  | [], listed => Region.seqB md ops g n listed
def permB (md : Region.Mode) (ops : Array Oper) (g n : Nat) (es : List Nat) : List Nat → Array Bool → Bool
  | i :: ps, listed => (Region.ready md ops listed).contains i && Region.free md ops listed i && decide (i < n) && permB md ops g n es ps (listed.setIfInBounds i true)
  | [], listed => permE md ops g n es listed

theorem pick_cons {l : List Oper} {i : Nat} {o : Oper} {ps : List Nat} (h : l[i]? = some o) : pick l (i :: ps) = o :: pick l ps := by
  unfold pick
  rw [List.filterMap_cons, h]
theorem headS_es {l : List Oper} {n g : Nat} {T : Act → World → Prop} : ∀ (es : List Nat) (listed : Array Bool) (a : Act) (w : World),
    permE md l.toArray g n es listed = true → wpDo P l.toArray Q S T (pick l es) a w →
    HeadS P md l.toArray Q S n (fun listed' a' w' => Region.seqB md l.toArray g n listed' = true ∧ T a' w') es.length listed a w := by
  intro es
  induction es with
  | nil => intro listed a w hB h; exact ⟨by simpa only [permE] using hB, h⟩
  | cons i es ih =>
    intro listed a w hB h
    simp only [permE, Bool.and_eq_true, decide_eq_true_eq] at hB
    obtain ⟨⟨⟨h1, h2⟩, h3⟩, h4⟩ := hB
    have hl : i < l.length := by simpa using h3
    have h0 : l[i]? = some l[i] := List.getElem?_eq_getElem hl
    rw [pick_cons h0] at h
    refine ⟨fun e => (by rw [h1] at e; cases e), fun j hj => ?_⟩
    rw [h1] at hj
    obtain rfl : j = i := by simpa using hj
    refine ⟨h2, wpOp_step (o := l[j]) (by simp) (fun K' hK => h K' (fun a' w' hS hd => hK a' w' ⟨hS, ih _ a' w' h4 hd⟩))⟩
theorem headS_ps {l : List Oper} {n g : Nat} {T : Act → World → Prop} {es : List Nat} (hsel : Region.noSelect l.toArray = true) (hs : Region.sinkB md l.toArray n = true) (hc : Region.chainB md l.toArray n = true) (hn : n < l.toArray.size)
    (hQ : ∀ c a d v w, Q (.panic c) (Act.put a d v) w → Q (.panic c) a w) (w : World) (hS : S w) :
    ∀ (ps : List Nat) (listed : Array Bool) (a : Act), HeadInv md l.toArray n listed → permB md l.toArray g n es ps listed = true →
    wpTake P l.toArray S (fun a' => wpDo P l.toArray Q S T (pick l es) a' w) (pick l ps) a →
    HeadS P md l.toArray Q S n (fun listed' a' w' => Region.seqB md l.toArray g n listed' = true ∧ T a' w') (ps.length + es.length) listed a w := by
  intro ps
  induction ps with
  | nil =>
    intro listed a _ hB h
    rw [show ([] : List Nat).length + es.length = es.length by simp]
    exact headS_es es listed a w hB h
  | cons i ps ih =>
    intro listed a inv hB h
    simp only [permB, Bool.and_eq_true, decide_eq_true_eq] at hB
    obtain ⟨⟨⟨h1, h2⟩, h3⟩, h4⟩ := hB
    have hr : i ∈ Region.ready md l.toArray listed := by simpa using h1
    obtain ⟨o, h0⟩ : ∃ o, l.toArray[i]? = some o := ⟨l.toArray[i]'(by omega), Array.getElem?_eq_getElem (by omega)⟩
    have h0' : l[i]? = some o := by simpa using h0
    rw [pick_cons h0'] at h
    obtain ⟨v, hy, hK⟩ := h
    rw [show (i :: ps).length + es.length = (ps.length + es.length) + 1 by simp only [List.length_cons]; omega]
    refine headS_first h0 (Region.noSelect_spec hsel) (fun c a w h => hQ c a _ _ w h) hs hc hn h3 (fun listed' a' w' hL => seqB_ready hL.1) (ps.length + es.length) listed a w inv (Region.free_spec h0 h2) hr hy hS ?_
    exact ih _ _ (inv.set hr h3) h4 hK
def pickB (ops : Array Oper) (ps es : List Nat) (n : Nat) : Bool :=
  Region.noSelect ops && decide (n < ops.size) && decide (ps.length + es.length = n) && Region.sinkB .any ops n && Region.chainB .any ops n && permB .any ops (ops.size - n) n es ps (Array.replicate ops.size false)
theorem region_pick {id : Nat} {a : Act} {w : World} {l : List Oper} (ps es : List Nat) (n : Nat) (hm : P.follows .mixedOrders = true) (hB : pickB l.toArray ps es n = true)
    (hQ : ∀ c a d v w, Q (.panic c) (Act.put a d v) w → Q (.panic c) a w) (hS : S w.drew)
    (h : S w.drew → wpTake P l.toArray S (fun a' => wpDo P l.toArray Q S (fun a'' w'' => wpList P l.toArray Q (l.drop n) a'' w'') (pick l es) a' w.drew) (pick l ps) a) : (Code.region id l.toArray true).wp P Q a w := by
  simp only [pickB, Bool.and_eq_true, decide_eq_true_eq] at hB
  obtain ⟨⟨⟨⟨⟨hsel, hn⟩, hlen⟩, hs⟩, hc⟩, hperm⟩ := hB
  have hn' : n < l.length := by simpa using hn
  have hdl : (l.drop n).length = l.toArray.size - n := by simp
  have inv0 : HeadInv .any l.toArray n (Array.replicate l.toArray.size false) :=
    ⟨by simp, fun j oj _ hl => (by rw [getD_replicate_false] at hl; cases hl), fun t _ ht => getD_in (by simpa using ht) (getD_replicate_false _ _)⟩
  have H := headS_ps (md := .any) (g := l.toArray.size - n) (T := fun a'' w'' => wpList P l.toArray Q (l.drop n) a'' w'') (es := es) hsel hs hc hn hQ w.drew hS ps _ a inv0 hperm (h hS)
  refine wp_region_any hm ?_
  have := any_of_headS (Q := Q) (g := l.toArray.size - n) (fun listed a' w' hL => by
    have := wpAny_of_seq (md := .any) (Q' := Q) (l.drop n) n listed a' w' (fun j => by simp [List.getElem?_drop]) (by rw [hdl]; exact hL.1) hL.2
    rwa [hdl] at this) _ _ _ _ H
  rw [hlen, show n + (l.toArray.size - n) = l.toArray.size by omega] at this
  exact this
end QT
end Go.Proofs.YtjkikkpbeceeeaaGreatDoor
end

section
/- Layer 7: the contract of Boot with edits. -/
namespace Go.Proofs.YtjkikkpbeceeeaaGreatDoor
open Go.RowKit Go.Lib Go.BigFrame
namespace DG
open OM TP TM DP DM TG TR FP

/-- Edits in the arguments. -/
structure EdCell (W : World) (g o : Nat) (e : Edit) (v : Ev) : Prop where
  a : W.cell? ⟨g, o, none⟩ = some (.int .i64 e.at_)
  p : W.cell? ⟨g, o + 1, none⟩ = some (txt e.path)
  s : W.cell? ⟨g, o + 2, none⟩ = some (.slice v.a e.value.length v.c)
def LayU (W : World) (au : Option Addr) (es : List Edit) (vs : List Ev) : Prop :=
  0 < es.length → ∃ g o, au = some ⟨g, o, none⟩ ∧ g < W.heap.size ∧ ∀ (k : Nat) (e : Edit) (v : Ev), es[k]? = some e → vs[k]? = some v → EdCell W g (o + k * 3) e v
structure EdArg (W : World) (au : Option Addr) (cu : Nat) (es : List Edit) (vs : List Ev) : Prop where
  lay : LayU W au es vs
  lens : vs.length = es.length
  vals : ∀ (j : Nat) (e : Edit) (v : Ev), es[j]? = some e → vs[j]? = some v → TW.Wide W v.a v.c e.value ∧ e.value.length ≤ 1048576
  no : au = none → cu = 0
  cap : es.length ≤ cu
theorem edits_len : ∀ (es : List Edit) (vs : List Ev), vs.length = es.length → (editsC es vs).length = es.length * 3
  | [], [], _ => rfl
  | e :: es, v :: vs, h => by
    have ih := edits_len es vs (by simpa using h)
    show (editV (e, v) ++ editsC es vs).length = _
    rw [List.length_append, ih, List.length_cons]
    show 3 + _ = _
    omega
theorem edits_cells : ∀ (es : List Edit) (vs : List Ev) (k : Nat) (e : Edit) (v : Ev), es[k]? = some e → vs[k]? = some v →
    (editsC es vs)[k * 3]? = some (.int .i64 e.at_) ∧ (editsC es vs)[k * 3 + 1]? = some (txt e.path) ∧ (editsC es vs)[k * 3 + 2]? = some (.slice v.a e.value.length v.c)
  | x :: es, y :: vs, 0, e, v, h1, h2 => by
    simp at h1 h2
    subst h1 h2
    exact ⟨rfl, rfl, rfl⟩
  | x :: es, y :: vs, k + 1, e, v, h1, h2 => by
    have ih := edits_cells es vs k e v (by simpa using h1) (by simpa using h2)
    have s : ∀ j, (editsC (x :: es) (y :: vs))[(k + 1) * 3 + j]? = (editsC es vs)[k * 3 + j]? := fun j => by
      show (editV (x, y) ++ editsC es vs)[_]? = _
      rw [List.getElem?_append_right (by show 3 ≤ _; omega)]
      congr 1
      show (k + 1) * 3 + j - 3 = _
      omega
    exact ⟨(s 0).trans ih.1, (s 1).trans ih.2.1, (s 2).trans ih.2.2⟩
theorem edits_one (es : List Edit) (vs : List Ev) : ∀ u ∈ editsC es vs, u.oneCell' = true := fun u hu => by
  obtain ⟨e, _, hu⟩ := List.mem_flatMap.1 hu
  unfold editV at hu
  simp at hu
  rcases hu with rfl | rfl | rfl <;> rfl
theorem edits_set : ∀ (es : List Edit) (vs : List Ev) (k : Nat) (e : Edit) (v : Ev), es[k]? = some e → k < vs.length → (editsC es vs).set (k * 3 + 2) (.slice v.a e.value.length v.c) = editsC es (vs.set k v)
  | x :: es, y :: vs, 0, e, v, h1, _ => by
    simp at h1
    subst h1
    rfl
  | x :: es, y :: vs, k + 1, e, v, h1, h2 => by
    have ih := edits_set es vs k e v (by simpa using h1) (by simpa using h2)
    show (editV (x, y) ++ editsC es vs).set ((k + 1) * 3 + 2) _ = editV (x, y) ++ editsC es (vs.set k v)
    rw [← ih, List.set_append_right _ _ (by show 3 ≤ _; omega)]
    congr 2
    show (k + 1) * 3 + 2 - 3 = _
    omega
theorem mix_set {vs evs : List Ev} {k : Nat} (ev : Ev) (h : evs.length = k) (hk : k < vs.length) : (evs ++ vs.drop k).set k ev = (evs ++ [ev]) ++ vs.drop (k + 1) := by
  rw [List.set_append_right _ _ (by omega), h, Nat.sub_self, List.drop_eq_getElem_cons hk, List.append_assoc]
  rfl
/-- A store into a list that the call owns. -/
theorem own_store {W : World} {B e size g n c : Nat} {xs : List Value} (h : W.ownsRow B e size (.slice (some ⟨g, 0, none⟩) n c) n xs) (j : Nat) (hj : j < n * size) (u : Value) : (W.setCell ⟨g, j, none⟩ u).ownsRow B e size (.slice (some ⟨g, 0, none⟩) n c) n (xs.set j u) := by
  obtain ⟨h1, h2 | ⟨g', cap, cur, e1, h3, h4, h5, h6, h7, h8⟩⟩ := h
  · cases h2.1
  · injection e1 with e1 _ e2
    injection e1 with e1
    injection e1 with e1 _ _
    subst e1 e2
    refine ⟨by rw [List.length_set]; exact h1, .inr ⟨g, c, cur.setIfInBounds j u, rfl, h3, row_set h4 u, h5, h6, by simpa using h7, ?_⟩⟩
    rw [Array.toList_setIfInBounds, List.take_set, h8]
def BootInv (w w0 : World) (P n : Nat) (D : Dk) (x : Parts) (v1 v2 : Value) (es : List Edit) (vs : List Ev) (fs : List Fate) (s28 : Value) (wr : World) : Prop :=
  ∃ (k : Nat) (evs : List Ev), s28 = .int .i64 k ∧ k ≤ n ∧ evs.length = k ∧ Out (fun k => k = P) w wr ∧ Below w0.heap.size w0 wr ∧
    wr.heap[P]? = some (.cells #[x.vn, x.vs, x.vc, .bool true, .int .i64 (D.inos.length : Nat), .int .i64 (D.clock : Nat), v1, v2, .slice none 0 0] 82 (0, 0)) ∧
    wr.ownsRow w.heap.size 63 4 v1 fs.length (fatesC fs) ∧ wr.ownsRow w.heap.size 106 3 v2 n (editsC es (evs ++ vs.drop k)) ∧
    ∀ (j : Nat) (e : Edit) (v : Ev), es[j]? = some e → evs[j]? = some v → wr.ownsRow w.heap.size 45 4 (.slice v.a e.value.length v.c) e.value.length (nodesC e.value)
theorem lay_cells {W : World} {ao : Option Addr} {ts : List Nd} (h : LayN W ao ts) : ∀ ad, ao = some ad → ∀ (j : Nat) (u : Value), (nodesC ts)[j]? = some u → W.cell? (ad.add j) = some u := fun ad ha j u hu => by
  have hl := nodes_len ts
  have hj := (List.getElem?_eq_some_iff.1 hu).1
  obtain ⟨g, o, rfl, _, hc⟩ := h (by omega)
  injection ha with ha
  subst ha
  have hk : j / 4 < ts.length := by omega
  obtain ⟨n, hn⟩ : ∃ n, ts[j / 4]? = some n := ⟨_, List.getElem?_eq_getElem hk⟩
  obtain ⟨a, b, c, d⟩ := hc _ n hn
  obtain ⟨a', b', c', d'⟩ := nodes_at ts _ n hn
  have e1 : (⟨g, o, none⟩ : Addr).add j = ⟨g, o + j, none⟩ := by unfold Addr.add; split <;> simp_all
  rw [e1]
  rcases (by omega : j % 4 = 0 ∨ j % 4 = 1 ∨ j % 4 = 2 ∨ j % 4 = 3) with h0 | h0 | h0 | h0
  · rw [show o + j = o + j / 4 * 4 by omega]
    rw [show j = j / 4 * 4 by omega] at hu
    exact a.trans (a'.symm.trans hu)
  · rw [show o + j = o + j / 4 * 4 + 1 by omega]
    rw [show j = j / 4 * 4 + 1 by omega] at hu
    exact b.trans (b'.symm.trans hu)
  · rw [show o + j = o + j / 4 * 4 + 2 by omega]
    rw [show j = j / 4 * 4 + 2 by omega] at hu
    exact c.trans (c'.symm.trans hu)
  · rw [show o + j = o + j / 4 * 4 + 3 by omega]
    rw [show j = j / 4 * 4 + 3 by omega] at hu
    exact d.trans (d'.symm.trans hu)
theorem layU_cells {W : World} {au : Option Addr} {es : List Edit} {vs : List Ev} (h : LayU W au es vs) (hl : vs.length = es.length) : ∀ ad, au = some ad → ∀ (j : Nat) (u : Value), (editsC es vs)[j]? = some u → W.cell? (ad.add j) = some u := fun ad ha j u hu => by
  have hl2 := edits_len es vs hl
  have hj := (List.getElem?_eq_some_iff.1 hu).1
  obtain ⟨g, o, rfl, _, hc⟩ := h (by omega)
  injection ha with ha
  subst ha
  have hk : j / 3 < es.length := by omega
  obtain ⟨e, he⟩ : ∃ e, es[j / 3]? = some e := ⟨_, List.getElem?_eq_getElem hk⟩
  obtain ⟨v, hv⟩ : ∃ v, vs[j / 3]? = some v := ⟨_, List.getElem?_eq_getElem (by omega)⟩
  obtain ⟨a, b, c⟩ := hc _ e v he hv
  obtain ⟨a', b', c'⟩ := edits_cells es vs _ e v he hv
  have e1 : (⟨g, o, none⟩ : Addr).add j = ⟨g, o + j, none⟩ := by unfold Addr.add; split <;> simp_all
  rw [e1]
  rcases (by omega : j % 3 = 0 ∨ j % 3 = 1 ∨ j % 3 = 2) with h0 | h0 | h0
  · rw [show o + j = o + j / 3 * 3 by omega]
    rw [show j = j / 3 * 3 by omega] at hu
    exact a.trans (a'.symm.trans hu)
  · rw [show o + j = o + j / 3 * 3 + 1 by omega]
    rw [show j = j / 3 * 3 + 1 by omega] at hu
    exact b.trans (b'.symm.trans hu)
  · rw [show o + j = o + j / 3 * 3 + 2 by omega]
    rw [show j = j / 3 * 3 + 2 by omega] at hu
    exact c.trans (c'.symm.trans hu)
/-- One more edit's value has been copied. -/
theorem boot_next {w w0 W2 : World} {P n k : Nat} {D : Dk} {x : Parts} {v1 : Value} {es : List Edit} {vs evs : List Ev} {fs : List Fate} {g2 c2 : Nat} {e : Edit} {a' : Option Addr} {c' : Nat} (hPw : P < w.heap.size) (hw0 : w0.heap.size ≤ P)
    (hk : evs.length = k) (hkn : k < n) (hes : es.length = n) (hvs : vs.length = n) (he : es[k]? = some e) (ho : Out (fun k => k = P) w W2) (hb : Below w0.heap.size w0 W2)
    (hr : W2.heap[P]? = some (.cells #[x.vn, x.vs, x.vc, .bool true, .int .i64 (D.inos.length : Nat), .int .i64 (D.clock : Nat), v1, .slice (some ⟨g2, 0, none⟩) n c2, .slice none 0 0] 82 (0, 0)))
    (hf : W2.ownsRow w.heap.size 63 4 v1 fs.length (fatesC fs)) (hu : W2.ownsRow w.heap.size 106 3 (.slice (some ⟨g2, 0, none⟩) n c2) n (editsC es (evs ++ vs.drop k)))
    (hv : ∀ (j : Nat) (e : Edit) (v : Ev), es[j]? = some e → evs[j]? = some v → W2.ownsRow w.heap.size 45 4 (.slice v.a e.value.length v.c) e.value.length (nodesC e.value))
    (hn : W2.ownsRow w.heap.size 45 4 (.slice a' e.value.length c') e.value.length (nodesC e.value)) :
    BootInv w w0 P n D x v1 (.slice (some ⟨g2, 0, none⟩) n c2) es vs fs (.int .i64 ((k + 1 : Nat) : Int)) (W2.setCell ⟨g2, k * 3 + 2, none⟩ (.slice a' e.value.length c')) := by
  have hg := hu.lt g2 rfl
  have tg := own_type hu g2 rfl
  have other : ∀ (t : TypeId) {m size : Nat} {u : Value} {xs : List Value}, W2.ownsRow w.heap.size t size u m xs → t ≠ 106 → (W2.setCell ⟨g2, k * 3 + 2, none⟩ (.slice a' e.value.length c')).ownsRow w.heap.size t size u m xs := fun t {m size u xs} h1 h2 =>
    own_same h1 fun g hg2 => set_other W2 g2 (k * 3 + 2) g _ (fun e => (own_type h1 g hg2).ne tg h2 e)
  have hst := own_store hu (k * 3 + 2) (by omega) (.slice a' e.value.length c')
  have hlen : (evs ++ vs.drop k).length = n := by rw [List.length_append, List.length_drop]; omega
  rw [edits_set es (evs ++ vs.drop k) k e ⟨a', c'⟩ he (by omega), mix_set ⟨a', c'⟩ hk (by omega)] at hst
  refine ⟨k + 1, evs ++ [⟨a', c'⟩], rfl, by omega, by simp [hk], ho.setCell (p := ⟨g2, k * 3 + 2, none⟩) (fun hh => ?_) _, ?_, (set_other W2 g2 _ P _ (by omega)).trans hr, other _ hf (by decide), hst, fun j e2 v h1 h2 => ?_⟩
  · have : g2 < w.heap.size := hh
    omega
  · have u := (Out.of_below hb).setCell (p := ⟨g2, k * 3 + 2, none⟩) (fun _ => (by show w0.heap.size ≤ g2; omega)) (.slice a' e.value.length c')
    exact u.below (fun j hj _ h => by omega) (Nat.le_refl _)
  · by_cases hj : j < k
    · rw [List.getElem?_append_left (by omega)] at h2
      exact other _ (hv j e2 v h1 h2) (by decide)
    · rw [List.getElem?_append_right (by omega)] at h2
      have hj2 : j = k := by
        have := (List.getElem?_eq_some_iff.1 h2).1
        simp at this
        omega
      subst hj2
      rw [he] at h1
      injection h1 with h1
      subst h1
      rw [hk, Nat.sub_self] at h2
      simp at h2
      subst h2
      exact other _ hn (by decide)
set_option maxRecDepth 100000 in
set_option maxHeartbeats 12800000 in
theorem dboot_edits (S : Nat → Prop) (w w0 : World) (P : Nat) (D : Dk) (fs : List Fate) (af : Option Addr) (cf : Nat) (es : List Edit) (vs : List Ev) (au : Option Addr) (cu : Nat) (h : Disk S w P D) (hf : ∀ ad, af = some ad → ∀ (j : Nat) (u : Value), (fatesC fs)[j]? = some u → w.cell? (ad.add j) = some u)
    (hff : ∀ ad, af = some ad → 0 < fs.length → ad.block ≠ P ∧ ad.block < w.heap.size) (hno : af = none → fs.length = 0 ∧ cf = 0) (hl : fs.length ≤ 1048576) (hb : Below w0.heap.size w0 w) (hP : w0.heap.size ≤ P) (hu : EdArg w0 au cu es vs) (hel : es.length ≤ 1048576) :
    Calls Tryz.prog 17 #[.pointer (some ⟨P, 0, none⟩), .slice af fs.length cf, .slice au es.length cu] w fun r w' => r = .returned (.tuple #[]) ∧ Does S P w.heap.size w (bootD D fs es) w' := by
  obtain ⟨adr, x, h⟩ := h
  have hr := h.row
  unfold diskC at hr
  have hpl := (Array.getElem?_eq_some_iff.1 hr).1
  have flen : ∀ l : List Fate, (fatesC l).length = l.length * 4 := fun l => by
    induction l with
    | nil => rfl
    | cons a l ih =>
      show (fateC a ++ fatesC l).length = _
      rw [List.length_append, ih, List.length_cons]
      show 4 + _ = _
      omega
  have fone : ∀ l : List Fate, ∀ u ∈ fatesC l, u.oneCell' = true := fun l u hu => by
    obtain ⟨f, _, hu⟩ := List.mem_flatMap.1 hu
    unfold fateC at hu
    simp at hu
    rcases hu with rfl | rfl | rfl | rfl <;> rfl
  have R1 : Hid (((w.setCell ⟨P, 3, none⟩ (.bool true)).setCell ⟨P, 8, none⟩ (.slice none 0 0)).heap[P]? = some (.cells #[x.vn, x.vs, x.vc, .bool true, .int .i64 (D.inos.length : Nat), .int .i64 (D.clock : Nat), x.vf, x.ve, .slice none 0 0] 82 (0, 0))) := Lib.hid (row_set (j := 8) (row_set (j := 3) hr _) _)
  have U1 : Hid (Out (fun k => k = P) w ((w.setCell ⟨P, 3, none⟩ (.bool true)).setCell ⟨P, 8, none⟩ (.slice none 0 0))) := Lib.hid (((Out.refl (fun k => k = P) w).setCell (p := ⟨P, 3, none⟩) (fun _ => rfl) _).setCell (p := ⟨P, 8, none⟩) (fun _ => rfl) _)
  have Z1 : Hid (((w.setCell ⟨P, 3, none⟩ (.bool true)).setCell ⟨P, 8, none⟩ (.slice none 0 0)).heap.size = w.heap.size) := Lib.hid (by simp [set_size])
  have CF : Hid (Calls Tryz.prog 47 #[.slice af fs.length cf] ((w.setCell ⟨P, 3, none⟩ (.bool true)).setCell ⟨P, 8, none⟩ (.slice none 0 0)) (ClPost 63 4 fs.length (fatesC fs) ((w.setCell ⟨P, 3, none⟩ (.bool true)).setCell ⟨P, 8, none⟩ (.slice none 0 0)))) := Lib.hid (clF_any af fs.length cf (fatesC fs) _ (fun ad ha j u hu => by
    have h1 := hf ad ha j u hu
    obtain ⟨h2, h3⟩ := hff ad ha (by have := (List.getElem?_eq_some_iff.1 hu).1; rw [flen] at this; omega)
    have hab : (ad.add j).block = ad.block := by unfold Addr.add; split <;> rfl
    exact (U1.out.cell (p := ad.add j) (hab ▸ h3) (fun e => h2 (hab ▸ e))).trans h1) (flen fs) (fone fs) hno (by omega))
  have HU := Lib.hid hu
  have BU1 : Hid (Below w0.heap.size w0 ((w.setCell ⟨P, 3, none⟩ (.bool true)).setCell ⟨P, 8, none⟩ (.slice none 0 0))) := Lib.hid ((hb.setCell (p := ⟨P, 3, none⟩) hP _).setCell (p := ⟨P, 8, none⟩) hP _)
  have CU : Hid (∀ W, Below w0.heap.size w0 W → Calls Tryz.prog 48 #[.slice au es.length cu] W (ClPost 106 3 es.length (editsC es vs) W)) := Lib.hid (fun W hW => clU_any au es.length cu (editsC es vs) W (fun ad ha j u hu2 => by
    have h1 := layU_cells hu.lay hu.lens ad ha j u hu2
    have hab : (ad.add j).block = ad.block := by unfold Addr.add; split <;> rfl
    have hl0 : 0 < es.length := by have := edits_len es vs hu.lens; have := (List.getElem?_eq_some_iff.1 hu2).1; omega
    obtain ⟨g, o, e1, hg, _⟩ := hu.lay hl0
    rw [ha] at e1
    injection e1 with e1
    subst e1
    exact (hW.cell (p := (⟨g, o, none⟩ : Addr).add j) (by rw [hab]; exact hg)).trans h1) (edits_len es vs hu.lens) (edits_one es vs) (fun e => by
      refine ⟨?_, hu.no e⟩
      rcases Nat.eq_zero_or_pos es.length with h0 | h0
      · exact h0
      · obtain ⟨g, o, e1, _⟩ := hu.lay h0
        rw [e] at e1
        cases e1) (by omega))
  obtain ⟨n, hn⟩ : ∃ n, fs.length = n := ⟨_, rfl⟩
  obtain ⟨m, hm⟩ : ∃ m, es.length = m := ⟨_, rfl⟩
  have HN := Lib.hid hn
  have HM := Lib.hid hm
  have hcu : m ≤ cu := by have := hu.cap; omega
  rw [hn] at CF ⊢
  rw [hm] at CU ⊢ hel
  have HX := Lib.hid h
  have HPl : Hid (P < w.heap.size) := Lib.hid hpl
  have HP0 : Hid (w0.heap.size ≤ P) := Lib.hid hP
  obtain ⟨-, -, -, c3, -, -, -, -, c8, cfz⟩ := row9 hr
  clear h hr hf hff hno flen fone hn hm hu hb hP
  go_enter Tryz.func17, Tryz.ntmps17
  repeat (first | (go_at_call 47; fail) | go_skip | go_guarded | go_step | go_upon)
  refine CF.out.mono ?_
  rintro r w2 ⟨v1, rfl, ho1, hb1⟩
  simp only []
  obtain ⟨a1, k1, hv1, _⟩ := owns_view ho1
  subst hv1
  have B1 := Lib.hid hb1
  have HO1 := Lib.hid ho1
  have BU2 : Hid (Below w0.heap.size w0 w2) := Lib.hid (Below.trans BU1.out (hb1.mono BU1.out.size))
  clear ho1 hb1
  repeat (first | (go_at_call 48; fail) | go_skip | go_guarded | go_step | go_upon)
  refine (CU.out w2 BU2.out).mono ?_
  rintro r w3 ⟨v2, rfl, ho2, hb2⟩
  simp only []
  obtain ⟨a2, k2, hv2, _⟩ := owns_view ho2
  subst hv2
  have B2 := Lib.hid hb2
  have HO2 := Lib.hid ho2
  have hp1 : P < ((w.setCell ⟨P, 3, none⟩ (.bool true)).setCell ⟨P, 8, none⟩ (.slice none 0 0)).heap.size := by rw [Z1.out]; exact hpl
  have hp2 : P < w2.heap.size := Nat.lt_of_lt_of_le hp1 B1.out.size
  have R3 := Lib.hid ((hb2.block P hp2).trans ((B1.out.block P hp1).trans R1.out))
  obtain ⟨-, -, -, -, -, -, d6, d7, -, df⟩ := row9 R3.out
  clear ho2 hb2
  repeat (first | go_skip | go_guarded | go_step | go_upon)
  have U3 : Hid (Out (fun k => k = P) w ((w3.setCell ⟨P, 6, none⟩ (.slice a1 n k1)).setCell ⟨P, 7, none⟩ (.slice a2 m k2))) := Lib.hid (((((U1.out.thenBelow B1.out).thenBelow B2.out)).setCell (p := ⟨P, 6, none⟩) (fun _ => rfl) _).setCell (p := ⟨P, 7, none⟩) (fun _ => rfl) _)
  have BU4 : Hid (Below w0.heap.size w0 ((w3.setCell ⟨P, 6, none⟩ (.slice a1 n k1)).setCell ⟨P, 7, none⟩ (.slice a2 m k2))) := Lib.hid (((Below.trans BU2.out (B2.out.mono BU2.out.size)).setCell (p := ⟨P, 6, none⟩) HP0.out _).setCell (p := ⟨P, 7, none⟩) HP0.out _)
  have R4 := Lib.hid (row_set (j := 7) (row_set (j := 6) R3.out (.slice a1 n k1)) (.slice a2 m k2))
  have hz2 := B1.out.size
  have hz3 := B2.out.size
  have hzz := Z1.out
  have HA : Hid (((w3.setCell ⟨P, 6, none⟩ (.slice a1 n k1)).setCell ⟨P, 7, none⟩ (.slice a2 m k2)).ownsRow w.heap.size 63 4 (.slice a1 n k1) n (fatesC fs)) := Lib.hid (by
    have h1 := owns_below HO1.out B2.out
    rw [hzz] at h1
    refine own_same h1 fun g hg => ?_
    have hgp : g ≠ P := fun e => by have := (h1.lt g hg).1; omega
    exact (set_other _ P 7 g _ hgp).trans (set_other _ P 6 g _ hgp))
  have HBb : Hid (((w3.setCell ⟨P, 6, none⟩ (.slice a1 n k1)).setCell ⟨P, 7, none⟩ (.slice a2 m k2)).ownsRow w.heap.size 106 3 (.slice a2 m k2) m (editsC es vs)) := Lib.hid (by
    have h1 := owns_base HO2.out w.heap.size (by omega)
    refine own_same h1 fun g hg => ?_
    have hgp : g ≠ P := fun e => by have := (h1.lt g hg).1; omega
    exact (set_other _ P 7 g _ hgp).trans (set_other _ P 6 g _ hgp))
  obtain ⟨w4, hw4⟩ : ∃ W, (w3.setCell ⟨P, 6, none⟩ (.slice a1 n k1)).setCell ⟨P, 7, none⟩ (.slice a2 m k2) = W := ⟨_, rfl⟩
  rw [hw4] at U3 R4 HA HBb BU4
  try rw [hw4]
  clear hw4 d6 d7 df c3 c8 cfz
  go_loopw [28] (fun s28 wr => BootInv w w0 P m D x (.slice a1 n k1) (.slice a2 m k2) es vs fs s28 wr) (fun s28 _ => m - (Go.RowKit.intOf s28).toNat)
  case atStart => exact ⟨0, [], rfl, Nat.zero_le _, rfl, U3.out, BU4.out, R4.out, by rw [HN.out]; exact HA.out, HBb.out, fun j e v _ hv => by simp at hv⟩
  case round =>
    obtain ⟨k, evs, rfl, hk, hevs, hout, hbel, hrow, hfo, huo, hvo⟩ := hrel
    have HOut := Lib.hid hout
    have HBel := Lib.hid hbel
    have HRow := Lib.hid hrow
    have HFo := Lib.hid hfo
    have HUo := Lib.hid huo
    have HVo := Lib.hid hvo
    have HEv := Lib.hid hevs
    by_cases hlt : k < m
    · have hkz : (k : Int) < m := by omega
      obtain ⟨g, o, rfl, hg, hc⟩ := HU.out.lay (by rw [HM.out]; omega)
      obtain ⟨e, he⟩ : ∃ e, es[k]? = some e := ⟨es[k]'(by rw [HM.out]; exact hlt), List.getElem?_eq_getElem _⟩
      obtain ⟨v, hv⟩ : ∃ v, vs[k]? = some v := ⟨vs[k]'(by rw [HU.out.lens, HM.out]; exact hlt), List.getElem?_eq_getElem _⟩
      obtain ⟨e0, e1, e2⟩ := hc k e v he hv
      have sC : ∀ j, wr.cell? ⟨g, j, none⟩ = w0.cell? ⟨g, j, none⟩ := fun j => hbel.cell (p := ⟨g, j, none⟩) hg
      rw [← sC] at e0 e1 e2
      have hgr : g < wr.heap.size := Nat.lt_of_lt_of_le hg hbel.size
      obtain ⟨hwide, hbig⟩ := HU.out.vals k e v he hv
      obtain ⟨va, vc⟩ := v
      obtain ⟨X, hX, _⟩ := txt_of e.path
      obtain ⟨lv, hlv⟩ : ∃ z, e.value.length = z := ⟨_, rfl⟩
      obtain ⟨ea, hea⟩ : ∃ z, e.at_ = z := ⟨_, rfl⟩
      simp only at e2 hwide
      rw [hX] at e1
      rw [hlv] at e2
      rw [hea] at e0
      obtain ⟨g2, ha2, hg2, _⟩ : ∃ g2, a2 = some ⟨g2, 0, none⟩ ∧ g2 < wr.heap.size ∧ True := by
        obtain ⟨ao, c, e1, hx⟩ := owns_view huo
        injection e1 with e1 _ _
        obtain ⟨g2, e3, h4, _⟩ := hx (by omega)
        exact ⟨g2, by rw [e1, e3], h4, trivial⟩
      subst ha2
      have CN : Hid (∀ W, Below w0.heap.size w0 W → Calls Tryz.prog 49 #[.slice va lv vc] W (ClPost 45 4 lv (nodesC e.value) W)) := Lib.hid (fun W hW => by
        have hlay : LayN W va e.value := fun h0 => by
          obtain ⟨g, o, rfl, hg, hc⟩ := hwide.lay h0
          refine ⟨g, o, rfl, Nat.lt_of_lt_of_le hg hW.size, fun k n hk => ?_⟩
          obtain ⟨a, b, c, d⟩ := hc k n hk
          have s : ∀ j, W.cell? ⟨g, j, none⟩ = w0.cell? ⟨g, j, none⟩ := fun j => hW.cell (p := ⟨g, j, none⟩) hg
          exact ⟨(s _).trans a, (s _).trans b, (s _).trans c, (s _).trans d⟩
        rw [← hlv]
        exact clN_any va e.value.length vc (nodesC e.value) W (lay_cells hlay) (nodes_len _) (nds_one _) (fun ha => by
          have h1 := hwide.no ha
          have h2 := hwide.cap
          omega) (by omega))
      have RV := heap_alloc_new wr (.cells #[.int .i64 ea, .string X, .slice va lv vc] 106)
      have bW : Below wr.heap.size wr (wr.alloc (.cells #[.int .i64 ea, .string X, .slice va lv vc] 106)) := (Below.refl _ _).alloc (Nat.le_refl _) _
      have HE2 := Lib.hid he
      have HLv := Lib.hid hlv
      obtain ⟨cur, hcur⟩ : ∃ cur, wr.heap[g2]? = some (.cells cur 106 (0, 0)) ∧ k * 3 + 2 < cur.size := by
        obtain ⟨h1, h2 | ⟨g', cap, cur, e1, h3, h4, h5, h6, h7, h8⟩⟩ := huo
        · cases h2.1
        · injection e1 with e1 _ e2
          injection e1 with e1
          injection e1 with e1 _ _
          subst e1
          exact ⟨cur, h4, by omega⟩
      have HCur := Lib.hid hcur
      clear hc sC hX he hv hlv hea hwide hbig hout hbel hrow hfo huo hvo hevs hcur
      repeat (first | go_skip | go_guarded | go_step | go_upon)
      obtain ⟨W, hW⟩ : ∃ W, wr.alloc (.cells #[.int .i64 ea, .string X, .slice va lv vc] 106) = W := ⟨_, rfl⟩
      rw [hW] at RV bW ⊢
      obtain ⟨t0, t1, t2, tf⟩ := row3 RV
      have hPr : P < wr.heap.size := (Array.getElem?_eq_some_iff.1 HRow.out).1
      have hRowW := (bW.block _ hPr).trans HRow.out
      obtain ⟨-, -, -, -, -, -, -, s7, -, sf⟩ := row9 hRowW
      have hrW : wr.heap.size < W.heap.size := (Array.getElem?_eq_some_iff.1 RV).1
      have BW : Hid (Below w0.heap.size w0 W) := Lib.hid (Below.trans HBel.out (bW.mono HBel.out.size))
      have CN2 := Lib.hid (CN.out W.drew ⟨BW.out.os, BW.out.tape, BW.out.output, BW.out.size, BW.out.block⟩)
      refine wp_region_noPanic ?_
      with_reducible refine QT.region_pick (S := fun w' => w'.cell? ⟨P, 7, none⟩ = some (.slice (some ⟨g2, 0, none⟩) m k2) ∧ w'.cell? ⟨wr.heap.size, 2, none⟩ = some (.slice va lv vc)) [0, 1, 2, 3, 4, 5, 6] [7] 8 (by kernel_rfl) (by kernel_rfl) ?_ ?_ ?_
      · exact fun _ _ _ _ _ h => h
      · exact ⟨s7, t2⟩
      intro _
      simp only [QT.pick, List.filterMap_cons, List.filterMap_nil, List.getElem?_cons_succ, List.getElem?_cons_zero, List.drop_succ_cons, List.drop_zero]
      iterate 7 (refine QT.wpTake_cons _ (by rfl) (by intro w' hSw; obtain ⟨y0, y1⟩ := hSw; go_simp; first | done | rfl) ?_; try simp only [Act.put, List.setIfInBounds_toArray, List.set_cons_zero, List.set_cons_succ])
      refine QT.wpTake_nil ?_
      intro K' hK
      rw [if_pos (by rfl)]
      go_simp
      refine CN2.out.mono ?_
      rintro r W2 ⟨v9, rfl, ho9, hb9⟩
      simp only []
      obtain ⟨a9, c9, hv9, _⟩ := owns_view ho9
      subst hv9
      have b9 : Below W.heap.size W W2 := ⟨hb9.os, hb9.tape, hb9.output, hb9.size, hb9.block⟩
      have hP2 := (b9.block _ (Nat.lt_of_lt_of_le hPr bW.size)).trans hRowW
      obtain ⟨-, -, -, -, -, -, -, x7, -, -⟩ := row9 hP2
      have RV2 := (b9.block _ hrW).trans RV
      obtain ⟨-, -, u2, -⟩ := row3 RV2
      refine hK.out _ _ ⟨x7, u2⟩ ?_
      clear hK K'
      refine QT.wpDo_nil ?_
      try simp only [Act.put, List.setIfInBounds_toArray, List.set_cons_zero, List.set_cons_succ]
      have hb2' : Below wr.heap.size wr W2 := Below.trans bW (b9.mono bW.size)
      have hcur2 := (hb2'.block _ hg2).trans HCur.out.1
      obtain ⟨uz, huz⟩ : ∃ z, W2.cell? ⟨g2, k * 3 + 2, none⟩ = some z := ⟨cur[k * 3 + 2]'HCur.out.2, by rw [cell_of_row W2 g2 _ _ _ _ hcur2]; exact Array.getElem?_eq_getElem HCur.out.2⟩
      have hfz : W2.frozen? ⟨g2, k * 3 + 2, none⟩ = false := frozen_of_row W2 g2 _ _ _ hcur2
      have HNext : Hid (BootInv w w0 P m D x (.slice a1 n k1) (.slice (some ⟨g2, 0, none⟩) m k2) es vs fs (.int .i64 ((k + 1 : Nat) : Int)) (W2.setCell ⟨g2, k * 3 + 2, none⟩ (.slice a9 lv c9))) := Lib.hid (by
        have hz0 := HOut.out.size
        have := boot_next (x := x) (fs := fs) (evs := evs) (a' := a9) (c' := c9) HPl.out HP0.out HEv.out hlt HM.out (by rw [HU.out.lens, HM.out]) HE2.out (HOut.out.thenBelow hb2') (Below.trans HBel.out (hb2'.mono HBel.out.size)) ((hb2'.block _ hPr).trans HRow.out) (owns_below HFo.out hb2') (owns_below HUo.out hb2') (fun j e v h1 h2 => owns_below (HVo.out j e v h1 h2) hb2') (by
          rw [HLv.out]
          exact owns_base ho9 _ (by have := bW.size; show w.heap.size ≤ W.heap.size; omega))
        rw [HLv.out] at this
        exact this)
      clear ho9 hb9 b9 hP2 RV2 RV bW hW hb2' hcur2
      repeat (first | go_skip | go_guarded | go_step | go_upon)
      refine NoPanic.normal ?_
      repeat (first | go_skip | go_guarded | go_step | go_upon)
      refine ⟨?_, by simp [Go.RowKit.intOf]; omega⟩
      have h9 := HNext.out
      rw [show ((k + 1 : Nat) : Int) = (k : Int) + 1 by omega] at h9
      exact h9
    · have hkz : ¬ (k : Int) < m := by omega
      obtain rfl : k = m := by omega
      clear hlt
      repeat (first | go_skip | go_guarded | go_step | go_upon)
      go_end0
      have hvd : vs.drop k = [] := List.drop_eq_nil_of_le (by rw [HU.out.lens, HM.out]; exact Nat.le_refl _)
      rw [hvd, List.append_nil] at huo
      have hD := diskX_boot (fs := fs) (es := es) (evs := evs) (v1 := .slice a1 n k1) (v2 := .slice a2 k k2) HX.out hout hrow hfo (by rw [HM.out]; exact huo) (by rw [hevs, HM.out]) hvo
      exact ⟨rfl, hout.mono (fun k _ hk => .inr hk), _, fun k hk => hk.imp id (·.1), adr, _, hD⟩
end DG
end Go.Proofs.YtjkikkpbeceeeaaGreatDoor
end

section
/- Layer 7: what the statements' ask answers, over lists; what it leaves in memory. -/
namespace Go.Proofs.YtjkikkpbeceeeaaGreatDoor
open Go.RowKit Go.Lib Go.BigFrame
namespace DG
open OM TP TM DP DM TG TR FP

structure Cal where
  what : Int
  path : List UInt8
  dest : List UInt8
  data : List UInt8
  mode : Int
/-- What is answered: an error, a node, a stamp, texts. -/
structure Ans where
  err : Int
  node : Nd
  stamp : Stamp
  texts : List (List UInt8)
def errA (e : Int) : Ans := ⟨e, nodeZ, stampZ, []⟩
def askD (D : Dk) (c : Cal) : Dk × Ans :=
  if c.what = 0 then ((writeD D c.path c.data c.mode).1, errA (writeD D c.path c.data c.mode).2)
  else if c.what = 1 then ((mkdirD D c.path).1, errA (mkdirD D c.path).2)
  else if c.what = 2 then ((linkD D c.path c.dest).1, errA (linkD D c.path c.dest).2)
  else if c.what = 3 then ((removeD D c.path).1, errA (removeD D c.path).2)
  else if c.what = 4 then ((moveD D c.path c.dest).1, errA (moveD D c.path c.dest).2)
  else if c.what = 5 then ((replaceD D c.path c.dest).1, errA (replaceD D c.path c.dest).2)
  else if c.what = 6 then ((syncD D c.path).1, errA (syncD D c.path).2)
  else if c.what = 7 then ((flushD D).1, errA (flushD D).2)
  else if c.what = 8 then ((getD D c.path).1, ⟨(getD D c.path).2.2.2, (getD D c.path).2.1, (getD D c.path).2.2.1, []⟩)
  else if c.what = 9 then ((namesR D c.path).1, ⟨(namesR D c.path).2, nodeZ, stampZ, lastsR (namesR D c.path) c.path⟩)
  else if c.what = 10 then (bootD D [] [], errA 0)
  else (D, errA 0)
def calV (c : Cal) : Value := .agg #[.int .i64 c.what, txt c.path, txt c.dest, txt c.data, .int .i64 c.mode]
def AskPost (w W : World) (S : Nat → Prop) (P m : Nat) (Z : Dk × Ans) (r : Ending) (W' : World) : Prop :=
  ∃ v, r = .returned (.tuple #[.int .i64 Z.2.err, ndVal Z.2.node, stampVal Z.2.stamp, v]) ∧ W'.ownsRow W.heap.size 9 1 v Z.2.texts.length (Z.2.texts.map txt) ∧ AftN w W S P m Z.1 v W'
theorem results_ask {fn : Func} {o p q u : Tmp} {ty ty2 : TypeId} (h : fn.results = #[.tmp o, .cell p ty, .cell q ty2, .tmp u]) (tmps : Array Value) (P : Program) (w : World) :
    (results fn tmps).run P w = ((asAddr (tmps.getD p undef)).run P w).andThen fun a w₁ => ((loadVar ty a).run P w₁).andThen fun v w₂ => ((asAddr (tmps.getD q undef)).run P w₂).andThen fun b w₃ => ((loadVar ty2 b).run P w₃).andThen fun v2 w₄ => .ok (.tuple #[tmps.getD o undef, v, v2, tmps.getD u undef]) w₄ := by
  simp only [results, h]
  simp [Sem.run_bind, Result.andThen]
theorem row5c {W : World} {b : Nat} {a0 a1 a2 a3 a4 : Value} {t : TypeId} (h : W.heap[b]? = some (.cells #[a0, a1, a2, a3, a4] t (0, 0))) :
    W.cell? ⟨b, 0, none⟩ = some a0 ∧ W.cell? ⟨b, 1, none⟩ = some a1 ∧ W.cell? ⟨b, 2, none⟩ = some a2 ∧ W.cell? ⟨b, 3, none⟩ = some a3 ∧ W.cell? ⟨b, 4, none⟩ = some a4 ∧ ∀ j, W.frozen? ⟨b, j, none⟩ = false :=
  ⟨by rw [cell_of_row W b 0 _ _ _ h]; rfl, by rw [cell_of_row W b 1 _ _ _ h]; rfl, by rw [cell_of_row W b 2 _ _ _ h]; rfl, by rw [cell_of_row W b 3 _ _ _ h]; rfl, by rw [cell_of_row W b 4 _ _ _ h]; rfl, fun j => frozen_of_row W b j _ _ h⟩
/-- The five blocks that ask begins with: the call, the results, its own node and stamp. -/
def ask5 (W : World) (k m : Int) (X Y V : ByteArray) : World :=
  ((((W.alloc (.cells #[.int .i64 k, .string X, .string Y, .string V, .int .i64 m] 43)).alloc (.cells #[.string ⟨#[]⟩, .int .i64 0, .string ⟨#[]⟩, .int .i64 0] 45)).alloc (.cells #[.int .i64 0, .int .i64 0, .int .i64 0] 47)).alloc (.cells #[.string ⟨#[]⟩, .int .i64 0, .string ⟨#[]⟩, .int .i64 0] 45)).alloc (.cells #[.int .i64 0, .int .i64 0, .int .i64 0] 47)
structure Ask5 (W W5 : World) (k m : Int) (X Y V : ByteArray) : Prop where
  bel : Below W.heap.size W W5
  size : W.heap.size + 5 ≤ W5.heap.size
  r0 : W5.heap[W.heap.size]? = some (.cells #[.int .i64 k, .string X, .string Y, .string V, .int .i64 m] 43 (0, 0))
  r1 : W5.heap[W.heap.size + 1]? = some (.cells #[.string ⟨#[]⟩, .int .i64 0, .string ⟨#[]⟩, .int .i64 0] 45 (0, 0))
  r2 : W5.heap[W.heap.size + 1 + 1]? = some (.cells #[.int .i64 0, .int .i64 0, .int .i64 0] 47 (0, 0))
  r3 : W5.heap[W.heap.size + 1 + 1 + 1]? = some (.cells #[.string ⟨#[]⟩, .int .i64 0, .string ⟨#[]⟩, .int .i64 0] 45 (0, 0))
  r4 : W5.heap[W.heap.size + 1 + 1 + 1 + 1]? = some (.cells #[.int .i64 0, .int .i64 0, .int .i64 0] 47 (0, 0))
theorem ask5_is (W : World) (k m : Int) (X Y V : ByteArray) : Ask5 W (ask5 W k m X Y V) k m X Y V := by
  unfold ask5
  obtain ⟨w1, h1⟩ : ∃ w, W.alloc (.cells #[.int .i64 k, .string X, .string Y, .string V, .int .i64 m] 43) = w := ⟨_, rfl⟩
  have a1 := heap_alloc_new W (.cells #[.int .i64 k, .string X, .string Y, .string V, .int .i64 m] 43)
  have z1 : w1.heap.size = W.heap.size + 1 := by rw [← h1]; simp
  have b1 : Below W.heap.size W w1 := by rw [← h1]; exact (Below.refl _ _).alloc (Nat.le_refl _) _
  rw [h1] at a1 ⊢
  obtain ⟨w2, h2⟩ : ∃ w, w1.alloc (.cells #[.string ⟨#[]⟩, .int .i64 0, .string ⟨#[]⟩, .int .i64 0] 45) = w := ⟨_, rfl⟩
  have a2 := heap_alloc_new w1 (.cells #[.string ⟨#[]⟩, .int .i64 0, .string ⟨#[]⟩, .int .i64 0] 45)
  have z2 : w2.heap.size = w1.heap.size + 1 := by rw [← h2]; simp
  have b2 : Below w1.heap.size w1 w2 := by rw [← h2]; exact (Below.refl _ _).alloc (Nat.le_refl _) _
  rw [h2] at a2 ⊢
  obtain ⟨w3, h3⟩ : ∃ w, w2.alloc (.cells #[.int .i64 0, .int .i64 0, .int .i64 0] 47) = w := ⟨_, rfl⟩
  have a3 := heap_alloc_new w2 (.cells #[.int .i64 0, .int .i64 0, .int .i64 0] 47)
  have z3 : w3.heap.size = w2.heap.size + 1 := by rw [← h3]; simp
  have b3 : Below w2.heap.size w2 w3 := by rw [← h3]; exact (Below.refl _ _).alloc (Nat.le_refl _) _
  rw [h3] at a3 ⊢
  obtain ⟨w4, h4⟩ : ∃ w, w3.alloc (.cells #[.string ⟨#[]⟩, .int .i64 0, .string ⟨#[]⟩, .int .i64 0] 45) = w := ⟨_, rfl⟩
  have a4 := heap_alloc_new w3 (.cells #[.string ⟨#[]⟩, .int .i64 0, .string ⟨#[]⟩, .int .i64 0] 45)
  have z4 : w4.heap.size = w3.heap.size + 1 := by rw [← h4]; simp
  have b4 : Below w3.heap.size w3 w4 := by rw [← h4]; exact (Below.refl _ _).alloc (Nat.le_refl _) _
  rw [h4] at a4 ⊢
  obtain ⟨w5, h5⟩ : ∃ w, w4.alloc (.cells #[.int .i64 0, .int .i64 0, .int .i64 0] 47) = w := ⟨_, rfl⟩
  have a5 := heap_alloc_new w4 (.cells #[.int .i64 0, .int .i64 0, .int .i64 0] 47)
  have z5 : w5.heap.size = w4.heap.size + 1 := by rw [← h5]; simp
  have b5 : Below w4.heap.size w4 w5 := by rw [← h5]; exact (Below.refl _ _).alloc (Nat.le_refl _) _
  rw [h5] at a5 ⊢
  have c4 := (b5.block w3.heap.size (by omega)).trans a4
  have c3 := (b5.block w2.heap.size (by omega)).trans ((b4.block w2.heap.size (by omega)).trans a3)
  have c2 := (b5.block w1.heap.size (by omega)).trans ((b4.block w1.heap.size (by omega)).trans ((b3.block w1.heap.size (by omega)).trans a2))
  have c1 := (b5.block W.heap.size (by omega)).trans ((b4.block W.heap.size (by omega)).trans ((b3.block W.heap.size (by omega)).trans ((b2.block W.heap.size (by omega)).trans a1)))
  refine ⟨Below.trans b1 (Below.trans (b2.mono (by omega)) (Below.trans (b3.mono (by omega)) (Below.trans (b4.mono (by omega)) (b5.mono (by omega))))), by omega, c1, ?_, ?_, ?_, ?_⟩
  · rw [show W.heap.size + 1 = w1.heap.size by omega]; exact c2
  · rw [show W.heap.size + 1 + 1 = w2.heap.size by omega]; exact c3
  · rw [show W.heap.size + 1 + 1 + 1 = w3.heap.size by omega]; exact c4
  · rw [show W.heap.size + 1 + 1 + 1 + 1 = w4.heap.size by omega]; exact a5
theorem DS.mono {w W : World} {S : Nat → Prop} {P m n : Nat} {D : Dk} (h : DS w W S P m D) (hm : m ≤ n) : DS w W S P n D := ⟨h.disk, h.lo, h.pl, h.bel, h.num.mono hm⟩
theorem out_ask7 (w : World) (n : Nat) (v0 v1 v2 v3 v4 v5 v6 : Value) : Out (fun k => n + 1 ≤ k ∧ k ≤ n + 4) w (((((((w.setCell ⟨n + 1, 0, none⟩ v0).setCell ⟨n + 1, 1, none⟩ v1).setCell ⟨n + 1, 2, none⟩ v2).setCell ⟨n + 1, 3, none⟩ v3).setCell ⟨n + 1 + 1, 0, none⟩ v4).setCell ⟨n + 1 + 1, 1, none⟩ v5).setCell ⟨n + 1 + 1, 2, none⟩ v6).drew := ((((((((Out.refl _ w).setCell (p := ⟨n + 1, 0, none⟩) (fun _ => ⟨by show n + 1 ≤ n + 1; omega, by show n + 1 ≤ n + 4; omega⟩) _).setCell (p := ⟨n + 1, 1, none⟩) (fun _ => ⟨by show n + 1 ≤ n + 1; omega, by show n + 1 ≤ n + 4; omega⟩) _).setCell (p := ⟨n + 1, 2, none⟩) (fun _ => ⟨by show n + 1 ≤ n + 1; omega, by show n + 1 ≤ n + 4; omega⟩) _).setCell (p := ⟨n + 1, 3, none⟩) (fun _ => ⟨by show n + 1 ≤ n + 1; omega, by show n + 1 ≤ n + 4; omega⟩) _).setCell (p := ⟨n + 1 + 1, 0, none⟩) (fun _ => ⟨by show n + 1 ≤ n + 1 + 1; omega, by show n + 1 + 1 ≤ n + 4; omega⟩) _).setCell (p := ⟨n + 1 + 1, 1, none⟩) (fun _ => ⟨by show n + 1 ≤ n + 1 + 1; omega, by show n + 1 + 1 ≤ n + 4; omega⟩) _).setCell (p := ⟨n + 1 + 1, 2, none⟩) (fun _ => ⟨by show n + 1 ≤ n + 1 + 1; omega, by show n + 1 + 1 ≤ n + 4; omega⟩) _).drew
theorem out_ask14 (w : World) (n : Nat) (v0 v1 v2 v3 v4 v5 v6 v7 v8 v9 v10 v11 v12 v13 : Value) : Out (fun k => n + 1 ≤ k ∧ k ≤ n + 4) w ((((((((((((((w.setCell ⟨n + 1 + 1 + 1, 0, none⟩ v0).setCell ⟨n + 1 + 1 + 1, 1, none⟩ v1).setCell ⟨n + 1 + 1 + 1, 2, none⟩ v2).setCell ⟨n + 1 + 1 + 1, 3, none⟩ v3).setCell ⟨n + 1 + 1 + 1 + 1, 0, none⟩ v4).setCell ⟨n + 1 + 1 + 1 + 1, 1, none⟩ v5).setCell ⟨n + 1 + 1 + 1 + 1, 2, none⟩ v6).setCell ⟨n + 1, 0, none⟩ v7).setCell ⟨n + 1, 1, none⟩ v8).setCell ⟨n + 1, 2, none⟩ v9).setCell ⟨n + 1, 3, none⟩ v10).setCell ⟨n + 1 + 1, 0, none⟩ v11).setCell ⟨n + 1 + 1, 1, none⟩ v12).setCell ⟨n + 1 + 1, 2, none⟩ v13).drew := (((((((((((((((Out.refl _ w).setCell (p := ⟨n + 1 + 1 + 1, 0, none⟩) (fun _ => ⟨by show n + 1 ≤ n + 1 + 1 + 1; omega, by show n + 1 + 1 + 1 ≤ n + 4; omega⟩) _).setCell (p := ⟨n + 1 + 1 + 1, 1, none⟩) (fun _ => ⟨by show n + 1 ≤ n + 1 + 1 + 1; omega, by show n + 1 + 1 + 1 ≤ n + 4; omega⟩) _).setCell (p := ⟨n + 1 + 1 + 1, 2, none⟩) (fun _ => ⟨by show n + 1 ≤ n + 1 + 1 + 1; omega, by show n + 1 + 1 + 1 ≤ n + 4; omega⟩) _).setCell (p := ⟨n + 1 + 1 + 1, 3, none⟩) (fun _ => ⟨by show n + 1 ≤ n + 1 + 1 + 1; omega, by show n + 1 + 1 + 1 ≤ n + 4; omega⟩) _).setCell (p := ⟨n + 1 + 1 + 1 + 1, 0, none⟩) (fun _ => ⟨by show n + 1 ≤ n + 1 + 1 + 1 + 1; omega, by show n + 1 + 1 + 1 + 1 ≤ n + 4; omega⟩) _).setCell (p := ⟨n + 1 + 1 + 1 + 1, 1, none⟩) (fun _ => ⟨by show n + 1 ≤ n + 1 + 1 + 1 + 1; omega, by show n + 1 + 1 + 1 + 1 ≤ n + 4; omega⟩) _).setCell (p := ⟨n + 1 + 1 + 1 + 1, 2, none⟩) (fun _ => ⟨by show n + 1 ≤ n + 1 + 1 + 1 + 1; omega, by show n + 1 + 1 + 1 + 1 ≤ n + 4; omega⟩) _).setCell (p := ⟨n + 1, 0, none⟩) (fun _ => ⟨by show n + 1 ≤ n + 1; omega, by show n + 1 ≤ n + 4; omega⟩) _).setCell (p := ⟨n + 1, 1, none⟩) (fun _ => ⟨by show n + 1 ≤ n + 1; omega, by show n + 1 ≤ n + 4; omega⟩) _).setCell (p := ⟨n + 1, 2, none⟩) (fun _ => ⟨by show n + 1 ≤ n + 1; omega, by show n + 1 ≤ n + 4; omega⟩) _).setCell (p := ⟨n + 1, 3, none⟩) (fun _ => ⟨by show n + 1 ≤ n + 1; omega, by show n + 1 ≤ n + 4; omega⟩) _).setCell (p := ⟨n + 1 + 1, 0, none⟩) (fun _ => ⟨by show n + 1 ≤ n + 1 + 1; omega, by show n + 1 + 1 ≤ n + 4; omega⟩) _).setCell (p := ⟨n + 1 + 1, 1, none⟩) (fun _ => ⟨by show n + 1 ≤ n + 1 + 1; omega, by show n + 1 + 1 ≤ n + 4; omega⟩) _).setCell (p := ⟨n + 1 + 1, 2, none⟩) (fun _ => ⟨by show n + 1 ≤ n + 1 + 1; omega, by show n + 1 + 1 ≤ n + 4; omega⟩) _).drew
/-- Behind the call: its blocks are as they were. -/
theorem Ask5.keep {W W5 W6 : World} {k m : Int} {X Y V : ByteArray} {w : World} {S : Nat → Prop} {P n : Nat} {D : Dk} (h : Ask5 W W5 k m X Y V) (hd : DS w W S P n D) (ho : Out (fun k => S k ∨ k = P) W5 W6) :
    W6.heap[W.heap.size + 1]? = some (.cells #[.string ⟨#[]⟩, .int .i64 0, .string ⟨#[]⟩, .int .i64 0] 45 (0, 0)) ∧ W6.heap[W.heap.size + 1 + 1]? = some (.cells #[.int .i64 0, .int .i64 0, .int .i64 0] 47 (0, 0)) ∧
    W6.heap[W.heap.size + 1 + 1 + 1]? = some (.cells #[.string ⟨#[]⟩, .int .i64 0, .string ⟨#[]⟩, .int .i64 0] 45 (0, 0)) ∧ W6.heap[W.heap.size + 1 + 1 + 1 + 1]? = some (.cells #[.int .i64 0, .int .i64 0, .int .i64 0] 47 (0, 0)) := by
  obtain ⟨h1, h2⟩ := hd.lt
  have hn : ∀ j, W.heap.size ≤ j → ¬ (S j ∨ j = P) := fun j hj hh => by
    rcases hh with hh | hh
    · have := h2 j hh; omega
    · omega
  exact ⟨ho.row h.r1 (hn _ (by omega)), ho.row h.r2 (hn _ (by omega)), ho.row h.r3 (hn _ (by omega)), ho.row h.r4 (hn _ (by omega))⟩
theorem ask_done {w W W5 W6 W7 : World} {S S6 : Nat → Prop} {P n n' : Nat} {D D' : Dk} {v : Value} (h : DS w W S P n D) (hb : Below W.heap.size W W5) (hz : W.heap.size + 5 ≤ W5.heap.size) (h6 : DS w W6 S6 P n' D') (hs : ∀ k, S6 k → S k ∨ W5.heap.size ≤ k) (ho : Out (fun k => S k ∨ k = P) W5 W6)
    (ho7 : Out (fun k => W.heap.size + 1 ≤ k ∧ k ≤ W.heap.size + 4) W6 W7) (hv : ∀ g, v.ownBlock = some g → ¬ S6 g ∧ g ≠ P) : AftN w W S P n' D' v W7 := by
  obtain ⟨h1, h2⟩ := h.lt
  have hb0 := h.bel.size
  refine ⟨S6, h6.out ho7 (fun k hk => ⟨fun hh => ?_, by omega, by omega⟩), fun k hk => (hs k hk).imp id (fun hh => by omega), ?_, hv⟩
  · rcases hs k hh with h3 | h3
    · have := h2 k h3; omega
    · omega
  · exact (((Out.refl _ W).thenBelow hb).then ho (fun j _ hj => hj)).then ho7 (fun j hj hk => by omega)
end DG
end Go.Proofs.YtjkikkpbeceeeaaGreatDoor
end

section
/- Layer 7: what has been read of a disk, and the disk later: over lists. -/
namespace Go.Proofs.YtjkikkpbeceeeaaGreatDoor
open Go.RowKit Go.Lib Go.BigFrame
namespace DG
open OM TP TM DP DM TG TR FP

/-- An inode later: as it was, its bytes perhaps torn; or changed behind time c. -/
def Old (c : Nat) (i j : Ino) : Prop := (j.kind = i.kind ∧ j.mode = i.mode ∧ j.time = i.time ∧ j.data <+: i.data) ∨ (c : Int) < j.time
def Tm (D : Dk) : Prop := ∀ (k : Nat) (i : Ino), D.inos[k]? = some i → i.time ≤ (D.clock : Int)
structure From (c : Nat) (D E : Dk) : Prop where
  clock : D.clock ≤ E.clock
  inos : ∀ (k : Nat) (i : Ino), D.inos[k]? = some i → ∃ j, E.inos[k]? = some j ∧ Old c i j
  tm : Tm D → Tm E
theorem Old.refl (c : Nat) (i : Ino) : Old c i i := .inl ⟨rfl, rfl, rfl, List.prefix_refl _⟩
theorem Old.trans {c : Nat} {i j l : Ino} (h1 : Old c i j) (h2 : Old c j l) : Old c i l := by
  rcases h2 with ⟨a1, a2, a3, a4⟩ | h2
  · rcases h1 with ⟨b1, b2, b3, b4⟩ | h1
    · exact .inl ⟨a1.trans b1, a2.trans b2, a3.trans b3, List.IsPrefix.trans a4 b4⟩
    · exact .inr (by rw [a3]; exact h1)
  · exact .inr h2
theorem From.same {c : Nat} {D E : Dk} (hc : D.clock ≤ E.clock) (hi : E.inos = D.inos) : From c D E := ⟨hc, fun k i h => ⟨i, by rw [hi]; exact h, Old.refl c i⟩, fun h k i hk => by
  rw [hi] at hk
  have := h k i hk
  omega⟩
theorem From.refl (c : Nat) (D : Dk) : From c D D := .same (Nat.le_refl _) rfl
theorem From.trans {c : Nat} {D E F : Dk} (h1 : From c D E) (h2 : From c E F) : From c D F := ⟨Nat.le_trans h1.clock h2.clock, fun k i h => by
  obtain ⟨j, hj, o1⟩ := h1.inos k i h
  obtain ⟨l, hl, o2⟩ := h2.inos k j hj
  exact ⟨l, hl, o1.trans o2⟩, fun h => h2.tm (h1.tm h)⟩
theorem From.app {c : Nat} {D E : Dk} (hc : D.clock ≤ E.clock) (l : List Ino) (hi : E.inos = D.inos ++ l) (hl : ∀ i ∈ l, i.time ≤ (E.clock : Int)) : From c D E := ⟨hc, fun k i h => ⟨i, by
  rw [hi, List.getElem?_append_left (List.getElem?_eq_some_iff.1 h).1]
  exact h, Old.refl c i⟩, fun h k i hk => by
  rw [hi] at hk
  by_cases hkl : k < D.inos.length
  · rw [List.getElem?_append_left hkl] at hk
    have := h k i hk
    omega
  · rw [List.getElem?_append_right (by omega)] at hk
    exact hl i (List.mem_of_getElem? hk)⟩
theorem edit_from (c : Nat) (D : Dk) (p : List UInt8) (v : List Nd) : From c D (editD D p v) := by
  unfold editD
  split
  · exact .app (Nat.le_refl _) _ rfl (fun i hi => by
      obtain ⟨n, _, rfl⟩ := List.mem_map.1 hi
      exact Int.le_refl _)
  · exact .refl c D
theorem edits_from (c : Nat) (n : Nat) : ∀ (es : List Edit) (D : Dk), From c D (editsD D n es)
  | [], D => .refl c D
  | e :: es, D => by
    show From c D (editsD (if e.at_ = (n : Int) then editD D e.path e.value else D) n es)
    refine From.trans ?_ (edits_from c n es _)
    split
    · exact edit_from c D _ _
    · exact .refl c D
theorem begun_clock (D : Dk) (x : Did) : (begunD D x).clock = D.clock + 1 := (edits_same { D with clock := D.clock + 1 } D.trace.length D.edits).1
theorem begun_from (c : Nat) (D : Dk) (x : Did) : From c D (begunD D x) := by
  have h1 : From c D { D with clock := D.clock + 1 } := .same (Nat.le_succ _) rfl
  have h2 := edits_from c D.trace.length D.edits { D with clock := D.clock + 1 }
  exact (h1.trans h2).trans (.same (Nat.le_refl _) rfl)
theorem clean_old (c : Nat) (torn : Int) (i : Ino) : Old c i (clean torn i) := by
  unfold clean
  split
  · exact .inl ⟨rfl, rfl, rfl, List.take_prefix _ _⟩
  · exact Old.refl c i
theorem clean_time (torn : Int) (i : Ino) : (clean torn i).time = i.time := by
  unfold clean
  split <;> rfl
theorem crash_from (c : Nat) (D : Dk) (keep torn : Int) : From c D (crashD D keep torn) := ⟨Nat.le_refl _, fun k i h => ⟨clean torn i, by
  show (D.inos.map (clean torn))[k]? = _
  rw [List.getElem?_map, h]
  rfl, clean_old c torn i⟩, fun h k i hk => by
  have hk : (D.inos.map (clean torn))[k]? = some i := hk
  rw [List.getElem?_map] at hk
  obtain ⟨i0, h0, rfl⟩ := Option.map_eq_some_iff.1 hk
  rw [clean_time]
  exact h k i0 h0⟩
theorem step_from (c : Nat) (D : Dk) (x : Did) : From c D (stepD D x).1 := by
  unfold stepD
  split
  · exact .refl c D
  · split
    · exact (begun_from c D x).trans (crash_from c _ _ _)
    · split
      · exact begun_from c D x
      · exact begun_from c D x
theorem step_zero {D : Dk} {x : Did} (h : (stepD D x).2 = 0) : (stepD D x).1 = begunD D x := by
  unfold stepD at h ⊢
  split at h
  · simp at h
  · rename_i h1
    rw [if_neg h1]
    split at h
    · simp at h
    · rename_i h2
      rw [if_neg h2]
      split at h
      · simp at h
      · rename_i h3
        rw [if_neg h3]
theorem after_from {D : Dk} {x : Did} {f : Dk → Dk × Int} (hf : ∀ E, D.clock < E.clock → From D.clock E (f E).1) : From D.clock D (after (stepD D x) f).1 := by
  unfold after
  split
  · rename_i h
    refine (step_from D.clock D x).trans (hf _ ?_)
    rw [step_zero h, begun_clock]
    omega
  · exact step_from _ D x
theorem refuse_from {c : Nat} {e : Int} {D E : Dk} (h : From c D E) : From c D (refuse e D E).1 := by
  unfold refuse
  split
  · exact h
  · exact .refl c D
theorem change_from (c : Nat) (D : Dk) (l : List Nd) : From c D (changeD D l) := .same (Nat.le_refl _) rfl
theorem fresh_from (c : Nat) (D : Dk) (n : Nd) : From c D (freshD D n) := .app (Nat.le_refl _) _ rfl (fun i hi => by
  rw [List.mem_singleton.1 hi]
  exact Int.le_refl _)
theorem set_from {c : Nat} {D : Dk} (p : List UInt8) (f : Ino → Ino) (h1 : ∀ i, Old c i (f i)) (h2 : ∀ i, i.time ≤ (D.clock : Int) → (f i).time ≤ (D.clock : Int)) : From c D (setI D p f) := by
  unfold setI
  split
  · rename_i e _
    have hin : ∀ (i : Ino), D.inos[e.kind.toNat - 1]? = some i → inoOf D.inos e.kind = i := fun i hi => by
      unfold inoOf
      rw [List.getD_eq_getElem?_getD, hi]
      rfl
    refine ⟨Nat.le_refl _, fun k i h => ?_, fun h k i hk => ?_⟩
    · show ∃ j, (D.inos.set _ _)[k]? = some j ∧ _
      rw [List.getElem?_set]
      by_cases hk : e.kind.toNat - 1 = k
      · rw [if_pos hk, if_pos (by rw [hk]; exact (List.getElem?_eq_some_iff.1 h).1)]
        refine ⟨_, rfl, ?_⟩
        rw [hin i (by rw [hk]; exact h)]
        exact h1 i
      · rw [if_neg hk]
        exact ⟨i, h, Old.refl c i⟩
    · have hk : (D.inos.set (e.kind.toNat - 1) (f (inoOf D.inos e.kind)))[k]? = some i := hk
      rw [List.getElem?_set] at hk
      by_cases he : e.kind.toNat - 1 = k
      · rw [if_pos he] at hk
        by_cases hl : e.kind.toNat - 1 < D.inos.length
        · rw [if_pos hl] at hk
          injection hk with hk
          obtain ⟨i0, h0⟩ : ∃ i0, D.inos[e.kind.toNat - 1]? = some i0 := ⟨_, List.getElem?_eq_getElem hl⟩
          rw [← hk, hin i0 h0]
          exact h2 i0 (h _ i0 h0)
        · rw [if_neg hl] at hk
          cases hk
      · rw [if_neg he] at hk
        exact h k i hk
  · exact .refl c D
theorem wrote_from {c : Nat} {E : Dk} (hc : c < E.clock) (p d : List UInt8) (m : Int) : From c E (wroteD E p d m) := by
  unfold wroteD
  by_cases h0 : kindD E p = 0
  · rw [if_pos h0]
    refine ((fresh_from c E _).trans (change_from c _ _)).trans (set_from p _ (fun i => .inr ?_) (fun i _ => Int.le_refl _))
    show (c : Int) < (E.clock : Int)
    omega
  · rw [if_neg h0]
    refine set_from p _ (fun i => .inr ?_) (fun i _ => Int.le_refl _)
    show (c : Int) < (E.clock : Int)
    omega
theorem laid_from (c : Nat) (D : Dk) (n : Nd) : From c D (laidD D n) := (fresh_from c D n).trans (change_from c _ _)
theorem boot_from (c : Nat) (D : Dk) (fs : List Fate) (es : List Edit) : From c D (bootD D fs es) := .same (Nat.le_refl _) rfl
theorem get_from (D : Dk) (p : List UInt8) : From D.clock D (getD D p).1 := by
  have h : From D.clock D (after (stepD D ⟨cGet, p, []⟩) fun E => refuse (missE E p) E E).1 := after_from fun E _ => refuse_from (.refl _ E)
  unfold getD
  simp only
  split
  · exact h
  · exact h
theorem ask_from (D : Dk) (c : Cal) : From D.clock D (askD D c).1 := by
  unfold askD
  split
  · exact after_from fun E hE => refuse_from (wrote_from hE _ _ _)
  split
  · exact after_from fun E _ => refuse_from (laid_from _ E _)
  split
  · exact after_from fun E _ => refuse_from (laid_from _ E _)
  split
  · exact after_from fun E _ => refuse_from (change_from _ E _)
  split
  · refine after_from fun E _ => ?_
    split
    · split
      · exact .refl _ E
      · exact change_from _ E _
    · exact .refl _ E
  split
  · exact after_from fun E _ => refuse_from (change_from _ E _)
  split
  · exact after_from fun E _ => refuse_from (set_from _ _ (fun i => .inl ⟨rfl, rfl, rfl, List.prefix_refl _⟩) (fun i h => h))
  split
  · exact after_from fun E _ => .same (Nat.le_refl _) rfl
  split
  · exact get_from D _
  split
  · exact after_from fun E _ => refuse_from (.refl _ E)
  split
  · exact boot_from _ D _ _
  · exact .refl _ D
theorem new_tm (t : List Nd) : Tm (newD t) := fun k i h => by
  have h : (t.map (freshI emptyD))[k]? = some i := h
  rw [List.getElem?_map] at h
  obtain ⟨n, _, rfl⟩ := Option.map_eq_some_iff.1 h
  exact Int.le_refl _
/-- A node and a stamp that were read of the disk, at this time or an earlier one. -/
structure Seen (D : Dk) (n : Nd) (s : Stamp) : Prop where
  time : s.time ≤ (D.clock : Int)
  size : s.size = n.data.length
  ino : ∃ j, D.inos[s.ino.toNat - 1]? = some j ∧ (s.time < j.time ∨ (j.kind = n.kind ∧ j.mode = n.mode ∧ j.time = s.time ∧ j.data <+: n.data))
theorem Seen.from {D E : Dk} {n : Nd} {s : Stamp} (h : Seen D n s) (hf : From D.clock D E) : Seen E n s := by
  have ht := h.time
  have hc := hf.clock
  refine ⟨by omega, h.size, ?_⟩
  obtain ⟨j, hj, ho⟩ := h.ino
  obtain ⟨l, hl, ho2⟩ := hf.inos _ j hj
  refine ⟨l, hl, ?_⟩
  rcases ho2 with ⟨a1, a2, a3, a4⟩ | h2
  · rcases ho with h3 | ⟨b1, b2, b3, b4⟩
    · exact .inl (by rw [a3]; exact h3)
    · exact .inr ⟨a1.trans b1, a2.trans b2, a3.trans b3, List.IsPrefix.trans a4 b4⟩
  · exact .inl (by omega)
theorem ino_mem {D : Dk} (hf : Fit D) {e : Nd} (he : e ∈ D.names) : D.inos[e.kind.toNat - 1]? = some (inoOf D.inos e.kind) := by
  obtain ⟨k, hk, h1, h2⟩ := hf.names.ino e he
  have hkk : e.kind = (k : Int) := by rw [hk]; rfl
  unfold inoOf
  rw [hkk, List.getD_eq_getElem?_getD, List.getElem?_eq_getElem (by simp; omega)]
  rfl
/-- What Get answers without an error has been seen. -/
theorem got_seen {D : Dk} (hf : Fit D) (ht : Tm D) {p : List UInt8} (hp : p ≠ []) (hk : kindD D p ≠ 0) : Seen D (gotN D p) (gotS D p) ∧ (gotN D p).path = p := by
  unfold kindD kindN at hk
  rw [if_neg hp] at hk
  unfold gotN gotS
  rw [if_neg hp, if_neg hp]
  cases hfn : findN D.names p with
  | none =>
    rw [hfn] at hk
    exact absurd rfl hk
  | some e =>
    have he : e ∈ D.names := List.mem_of_find?_eq_some hfn
    have hi := ino_mem hf he
    exact ⟨⟨ht _ _ hi, rfl, _, hi, .inr ⟨rfl, rfl, rfl, List.prefix_refl _⟩⟩, rfl⟩
/-- The same stamp at the same path: the same node. -/
theorem seen_same {D : Dk} (hf : Fit D) {p : List UInt8} (hp : p ≠ []) (hk : kindD D p ≠ 0) {n : Nd} {s : Stamp} (h : Seen D n s) (hn : n.path = p) (hs : s = gotS D p) : n = gotN D p := by
  unfold kindD kindN at hk
  rw [if_neg hp] at hk
  unfold gotN
  unfold gotS at hs
  rw [if_neg hp] at hs ⊢
  cases hfn : findN D.names p with
  | none =>
    rw [hfn] at hk
    exact absurd rfl hk
  | some e =>
    rw [hfn] at hs
    have he : e ∈ D.names := List.mem_of_find?_eq_some hfn
    have hi := ino_mem hf he
    obtain ⟨j, hj, ho⟩ := h.ino
    have hz := h.size
    subst hs
    simp only at hj ho hz
    rw [hi] at hj
    injection hj with hj
    subst hj
    rcases ho with ho | ⟨h1, h2, _, h4⟩
    · exact absurd ho (Int.lt_irrefl _)
    · have hd : (inoOf D.inos e.kind).data = n.data := h4.eq_of_length (by omega)
      obtain ⟨np, nk, nd, nm⟩ := n
      simp only at h1 h2 hd hn
      unfold nodeOf
      simp only
      rw [h1, h2, hd, hn]
theorem miss_zero {D : Dk} {p : List UInt8} (h : missE D p = 0) : kindD D p ≠ 0 := fun h0 => by
  unfold missE at h
  rw [h0] at h
  generalize whenE (!decide (p = []) && !NP.pathL p) 11 = x at h
  by_cases h1 : x = 0
  · simp [firstE, h1, whenE] at h
  · simp [firstE, h1] at h
theorem get_zero {D : Dk} {p : List UInt8} (h : (DP.getD D p).2.2.2 = 0) : kindD (DP.getD D p).1 p ≠ 0 ∧ (DP.getD D p).2 = (gotN (DP.getD D p).1 p, gotS (DP.getD D p).1 p, 0) := by
  obtain ⟨r, hr⟩ : ∃ r, after (stepD D ⟨cGet, p, []⟩) (fun E => refuse (missE E p) E E) = r := ⟨_, rfl⟩
  have hg : DP.getD D p = if r.2 = 0 then (r.1, (gotN r.1 p, gotS r.1 p, 0)) else (r.1, (nodeZ, stampZ, r.2)) := by rw [← hr]; rfl
  by_cases h0 : r.2 = 0
  · rw [hg, if_pos h0]
    refine ⟨?_, rfl⟩
    unfold after at hr
    by_cases h1 : (stepD D ⟨cGet, p, []⟩).2 = 0
    · rw [if_pos h1] at hr
      unfold refuse at hr
      by_cases h2 : missE (stepD D ⟨cGet, p, []⟩).1 p = 0
      · simp only at hr
        rw [if_pos h2] at hr
        rw [← hr]
        exact miss_zero h2
      · simp only at hr
        rw [if_neg h2] at hr
        rw [← hr] at h0
        exact absurd h0 h2
    · rw [if_neg h1] at hr
      rw [← hr] at h0
      exact absurd h0 h1
  · rw [hg, if_neg h0] at h
    exact absurd h h0
end DG
end Go.Proofs.YtjkikkpbeceeeaaGreatDoor
end

section
/- Layer 7: Boot with edits of a disk in scope; the list of what was read (DiskStamps). -/
namespace Go.Proofs.YtjkikkpbeceeeaaGreatDoor
open Go.RowKit Go.Lib Go.BigFrame
namespace DG
open OM TP TM DP DM TG TR FP

theorem EdArg.below {w W : World} {au : Option Addr} {cu : Nat} {es : List Edit} {vs : List Ev} (h : EdArg w au cu es vs) (hb : Below w.heap.size w W) : EdArg W au cu es vs := by
  refine ⟨fun h0 => ?_, h.lens, fun j e v he hv => ⟨(h.vals j e v he hv).1.below hb, (h.vals j e v he hv).2⟩, h.no, h.cap⟩
  obtain ⟨g, o, e1, hg, hc⟩ := h.lay h0
  have s : ∀ j, W.cell? ⟨g, j, none⟩ = w.cell? ⟨g, j, none⟩ := fun j => hb.cell (p := ⟨g, j, none⟩) hg
  exact ⟨g, o, e1, Nat.lt_of_lt_of_le hg hb.size, fun k e v he hv => ⟨(s _).trans (hc k e v he hv).a, (s _).trans (hc k e v he hv).p, (s _).trans (hc k e v he hv).s⟩⟩
theorem fates_len : ∀ l : List Fate, (fatesC l).length = l.length * 4
  | [] => rfl
  | a :: l => by
    show (fateC a ++ fatesC l).length = _
    rw [List.length_append, fates_len l, List.length_cons]
    show 4 + _ = _
    omega
theorem num_bootE {m : Nat} {D : Dk} (h : Num m D) (fs : List Fate) {w : World} {au : Option Addr} {cu : Nat} {es : List Edit} {vs : List Ev} (hu : EdArg w au cu es vs) (hel : es.length ≤ 1048576) (hp : ∀ e ∈ es, e.path.length ≤ maxLen) : Num m (bootD D fs es) := by
  refine ⟨h.clock, Nat.zero_le _, h.later, h.inos, hel, hp, fun e he => ?_⟩
  obtain ⟨j, hj, rfl⟩ := List.mem_iff_getElem.1 he
  obtain ⟨v, hv⟩ : ∃ v, vs[j]? = some v := ⟨_, List.getElem?_eq_getElem (by rw [hu.lens]; exact hj)⟩
  have h1 := (hu.vals j _ v (List.getElem?_eq_getElem hj) hv).1
  exact ⟨h1.long, h1.max⟩
/-- Boot with edits out of the arguments. -/
theorem DS.bootE {w W : World} {S : Nat → Prop} {P m : Nat} {D : Dk} (h : DS w W S P m D) (fs : List Fate) (af : Option Addr) (cf : Nat) (hf : ∀ ad, af = some ad → (0 < fs.length → ad.block < w.heap.size) ∧ ∀ (j : Nat) (u : Value), (fatesC fs)[j]? = some u → w.cell? (ad.add j) = some u)
    (hno : af = none → fs.length = 0 ∧ cf = 0) (hl : fs.length ≤ 1048576) (es : List Edit) (vs : List Ev) (au : Option Addr) (cu : Nat) (hu : EdArg w au cu es vs) (hel : es.length ≤ 1048576) (hp : ∀ e ∈ es, e.path.length ≤ maxLen) :
    Calls Tryz.prog 17 #[.pointer (some ⟨P, 0, none⟩), .slice af fs.length cf, .slice au es.length cu] W fun r W' => r = .returned (.tuple #[]) ∧ Aft w W S P m (bootD D fs es) W' := by
  refine (dboot_edits S W w P D fs af cf es vs au cu h.disk (fun ad ha j u hu => ?_) (fun ad ha h0 => ?_) hno hl h.bel h.pl hu hel).mono ?_
  · obtain ⟨h1, h2⟩ := hf ad ha
    have hab : (ad.add j).block = ad.block := by unfold Addr.add; split <;> rfl
    have h0 : 0 < fs.length := by have := (List.getElem?_eq_some_iff.1 hu).1; rw [fates_len] at this; omega
    exact (h.bel.cell (p := ad.add j) (by rw [hab]; exact h1 h0)).trans (h2 j u hu)
  · have h1 := (hf ad ha).1 h0
    have := h.pl
    have := h.bel.size
    exact ⟨by omega, by omega⟩
  · rintro r W' ⟨hr, hd⟩
    exact ⟨hr, h.aft hd (num_bootE h.num fs hu hel hp)⟩
/- what was read -/
abbrev Sn := Nd × Stamp
def seenC (x : Sn) : List Value := [txt x.1.path, .int .i64 x.1.kind, txt x.1.data, .int .i64 x.1.mode, .int .i64 x.2.ino, .int .i64 x.2.size, .int .i64 x.2.time]
def seensC (l : List Sn) : List Value := l.flatMap seenC
theorem seens_len : ∀ l : List Sn, (seensC l).length = l.length * 7
  | [] => rfl
  | a :: l => by
    show (seenC a ++ seensC l).length = _
    rw [List.length_append, seens_len l, List.length_cons]
    show 7 + _ = _
    omega
theorem seens_snoc (l : List Sn) (x : Sn) : seensC (l ++ [x]) = seensC l ++ seenC x := by unfold seensC; rw [List.flatMap_append]; simp
theorem seens_drop : ∀ (l : List Sn) (k : Nat) (x : Sn), l[k]? = some x → ∃ r, (seensC l).drop (k * 7) = seenC x ++ r
  | a :: l, 0, x, h => by
    simp at h
    subst h
    exact ⟨seensC l, rfl⟩
  | a :: l, k + 1, x, h => by
    obtain ⟨r, hr⟩ := seens_drop l k x (by simpa using h)
    refine ⟨r, ?_⟩
    show (seenC a ++ seensC l).drop ((k + 1) * 7) = _
    rw [List.drop_append, show (seenC a).length = 7 from rfl, show (seenC a).drop ((k + 1) * 7) = [] from List.drop_eq_nil_of_le (by rw [show (seenC a).length = 7 from rfl]; omega), show (k + 1) * 7 - 7 = k * 7 by omega, hr]
    rfl
theorem seens_at {l : List Sn} {k : Nat} {x : Sn} (h : l[k]? = some x) (i : Nat) (hi : i < 7) : (seensC l)[k * 7 + i]? = (seenC x)[i]? := by
  obtain ⟨r, hr⟩ := seens_drop l k x h
  rw [← List.getElem?_drop, hr, List.getElem?_append_left (by rw [show (seenC x).length = 7 from rfl]; exact hi)]
theorem seen_one (x : Sn) : ∀ u ∈ seenC x, u.oneCell' = true := fun u hu => by
  unfold seenC at hu
  simp at hu
  rcases hu with rfl | rfl | rfl | rfl | rfl | rfl | rfl <;> rfl
theorem infoS : (Tryz.prog.info? 76).map (fun i => (i.zero, i.size, i.bytes)) = some (some (.agg #[.string ⟨#[]⟩, .int .i64 0, .string ⟨#[]⟩, .int .i64 0, .int .i64 0, .int .i64 0, .int .i64 0]), 7, 72) := by kernel_rfl
theorem row7c {W : World} {b : Nat} {a0 a1 a2 a3 a4 a5 a6 : Value} {t : TypeId} (h : W.heap[b]? = some (.cells #[a0, a1, a2, a3, a4, a5, a6] t (0, 0))) :
    W.cell? ⟨b, 0, none⟩ = some a0 ∧ W.cell? ⟨b, 1, none⟩ = some a1 ∧ W.cell? ⟨b, 2, none⟩ = some a2 ∧ W.cell? ⟨b, 3, none⟩ = some a3 ∧ W.cell? ⟨b, 4, none⟩ = some a4 ∧ W.cell? ⟨b, 5, none⟩ = some a5 ∧ W.cell? ⟨b, 6, none⟩ = some a6 ∧ ∀ j, W.frozen? ⟨b, j, none⟩ = false :=
  ⟨by rw [cell_of_row W b 0 _ _ _ h]; rfl, by rw [cell_of_row W b 1 _ _ _ h]; rfl, by rw [cell_of_row W b 2 _ _ _ h]; rfl, by rw [cell_of_row W b 3 _ _ _ h]; rfl, by rw [cell_of_row W b 4 _ _ _ h]; rfl, by rw [cell_of_row W b 5 _ _ _ h]; rfl, by rw [cell_of_row W b 6 _ _ _ h]; rfl, fun j => frozen_of_row W b j _ _ h⟩
theorem seven_new (W : World) (x : Sn) (X Y : Value) (hX : txt x.1.path = X) (hY : txt x.1.data = Y) (t : TypeId) : ∀ (j : Nat) (u : Value), (seenC x)[j]? = some u → (W.alloc (.cells #[X, .int .i64 x.1.kind, Y, .int .i64 x.1.mode, .int .i64 x.2.ino, .int .i64 x.2.size, .int .i64 x.2.time] t)).cell? ((⟨W.heap.size, 0, none⟩ : Addr).add j) = some u := by
  subst hX hY
  intro j u hu
  have e1 : (⟨W.heap.size, 0, none⟩ : Addr).add j = ⟨W.heap.size, j, none⟩ := by simp [Addr.add]; omega
  rw [e1, cell_of_row _ _ j _ _ _ (heap_alloc_new W _)]
  rw [← hu]
  show (seenC x).toArray[j]? = _
  simp
theorem eq_st2 (a b : Stamp) (W : World) : (Op.equalIn 10000 47 (.agg #[.int .i64 a.ino, .int .i64 a.size, .int .i64 a.time]) (.agg #[.int .i64 b.ino, .int .i64 b.size, .int .i64 b.time])).run Tryz.prog W = .ok (decide (a.ino = b.ino ∧ a.size = b.size ∧ a.time = b.time)) W := by
  rw [run_equalIn_struct W 9999 47 _ _ (by kernel_rfl) (by kernel_rfl)]
  have names : (Tryz.prog.fieldsOf 47).toList.map (fun f => (f.name, f.type, f.offset)) = [("Ino", 3, 0), ("Size", 3, 1), ("Time", 3, 2)] := by kernel_rfl
  obtain ⟨f0, f1, f2, e⟩ : ∃ f0 f1 f2, (Tryz.prog.fieldsOf 47).toList = [f0, f1, f2] := by
    have hl := congrArg List.length names
    rw [List.length_map] at hl
    match h : (Tryz.prog.fieldsOf 47).toList, hl with
    | [f0, f1, f2], _ => exact ⟨f0, f1, f2, rfl⟩
  rw [e] at names
  simp only [List.map_cons, List.map_nil, List.cons.injEq, Prod.mk.injEq, and_true] at names
  obtain ⟨⟨n0, t0, o0⟩, ⟨n1, t1, o1⟩, n2, t2, o2⟩ := names
  rw [e]
  by_cases h1 : a.ino = b.ino
  · by_cases h2 : a.size = b.size
    · by_cases h3 : a.time = b.time
      · simp [Op.eqFields, go_sem, n0, n1, n2, t0, t1, t2, o0, o1, o2, Tryz.underlying3, h1, h2, h3]
      · simp [Op.eqFields, go_sem, n0, n1, n2, t0, t1, t2, o0, o1, o2, Tryz.underlying3, h1, h2, h3]
    · simp [Op.eqFields, go_sem, n0, n1, n2, t0, t1, t2, o0, o1, o2, Tryz.underlying3, h1, h2]
  · simp [Op.eqFields, go_sem, n0, n1, n2, t0, t1, t2, o0, o1, o2, Tryz.underlying3, h1]
end DG
end Go.Proofs.YtjkikkpbeceeeaaGreatDoor
end

section
/- Layer 7: a list of calls in memory, and out of the arguments. -/
namespace Go.Proofs.YtjkikkpbeceeeaaGreatDoor
open Go.RowKit Go.Lib
namespace DG
open OM TP TM DP DM

structure CalAt (W : World) (g o : Nat) (c : Cal) : Prop where
  w : W.cell? ⟨g, o, none⟩ = some (.int .i64 c.what)
  p : W.cell? ⟨g, o + 1, none⟩ = some (txt c.path)
  q : W.cell? ⟨g, o + 2, none⟩ = some (txt c.dest)
  d : W.cell? ⟨g, o + 3, none⟩ = some (txt c.data)
  m : W.cell? ⟨g, o + 4, none⟩ = some (.int .i64 c.mode)
def LayC (W : World) (ao : Option Addr) (cs : List Cal) : Prop :=
  0 < cs.length → ∃ g o, ao = some ⟨g, o, none⟩ ∧ g < W.heap.size ∧ ∀ (k : Nat) (c : Cal), cs[k]? = some c → CalAt W g (o + k * 5) c
theorem LayC.below {W W' : World} {B : Nat} {ao : Option Addr} {cs : List Cal} (h : LayC W ao cs) (hb : Below B W W') (hB : B = W.heap.size) : LayC W' ao cs := fun h0 => by
  subst hB
  obtain ⟨g, o, rfl, hg, hc⟩ := h h0
  refine ⟨g, o, rfl, Nat.lt_of_lt_of_le hg hb.size, fun k c hk => ?_⟩
  obtain ⟨a, b, d, e, f⟩ := hc k c hk
  have s : ∀ j, W'.cell? ⟨g, j, none⟩ = W.cell? ⟨g, j, none⟩ := fun j => hb.cell (p := ⟨g, j, none⟩) hg
  exact ⟨(s _).trans a, (s _).trans b, (s _).trans d, (s _).trans e, (s _).trans f⟩
/-- Their paths are texts. -/
def LongC (cs : List Cal) : Prop := ∀ c ∈ cs, c.path.length ≤ maxLen ∧ c.dest.length ≤ maxLen
end DG
open Go.ChangeShapes Go.WideShapes Go.ChangeAt
namespace DA
open OM TP TM DG
section
open Go.Deep
variable {H : Type} {enc : TypeId × Value → H} {P : Program} {w : World} {base : Nat} {spare : Nat → Bool} {held : Bool}
/-- A list of structs of five one-cell fields: the cells of each. -/
theorem open_fives {t e : TypeId} {f0 f1 f2 f3 f4 : Field} {fuel : Nat} {cs : List Value} {x : DataW H × List MemPlace} (ht : P.underlying t = some (.slice e)) (he : P.underlying e = some (.struct #[f0, f1, f2, f3, f4]))
    (ce : P.cellsOf e = 5) (o0 : f0.offset = 0) (o1 : f1.offset = 1) (o2 : f2.offset = 2) (o3 : f3.offset = 3) (o4 : f4.offset = 4) (c0 : P.cellsOf f0.type = 1) (c1 : P.cellsOf f1.type = 1) (c2 : P.cellsOf f2.type = 1) (c3 : P.cellsOf f3.type = 1) (c4 : P.cellsOf f4.type = 1)
    (h : DataW.trod enc P w base spare held fuel t cs = some x) :
    cs = [.slice none 0 0] ∨
    ∃ (a : Addr) (len cap n : Nat) (D : Nat → DataW H) (sp : List (DataW H)), cs = [.slice (some a) len cap] ∧ len ≤ cap ∧ cap ≤ maxLen ∧ x.1 = .slice ((List.range len).map D) sp ∧
      ∀ i, i < len → ∃ (v0 v1 v2 v3 v4 : Value) (y0 y1 y2 y3 y4 : DataW H × List MemPlace), w.cell? (a.add (i * 5)) = some v0 ∧ w.cell? (a.add (i * 5 + 1)) = some v1 ∧ w.cell? (a.add (i * 5 + 2)) = some v2 ∧ w.cell? (a.add (i * 5 + 3)) = some v3 ∧ w.cell? (a.add (i * 5 + 4)) = some v4 ∧
        D i = .agg [y0.1, y1.1, y2.1, y3.1, y4.1] ∧
        DataW.trod enc P w base spare held n f0.type [v0] = some y0 ∧ DataW.trod enc P w base spare held n f1.type [v1] = some y1 ∧ DataW.trod enc P w base spare held n f2.type [v2] = some y2 ∧ DataW.trod enc P w base spare held n f3.type [v3] = some y3 ∧ DataW.trod enc P w base spare held n f4.type [v4] = some y4 := by
  rcases open_slice ht h with h0 | ⟨a, len, cap, m, n, D, Pl, rfl, hb, hl, hm, hmm, rfl, hx⟩
  · exact Or.inl h0.1
  right
  have hlm : len ≤ m := by rw [hmm]; split <;> omega
  refine ⟨a, len, cap, n - 1, D, _, rfl, hl, hm, rfl, fun i hi => ?_⟩
  obtain ⟨cs', h1, h2⟩ := hx i (by omega)
  rw [ce] at h1
  obtain ⟨_, hlen, hcell⟩ := World.cells?_some h1
  obtain ⟨xs, k, hk, hxy, _, hxl, hf⟩ := DataW.trod_struct he h2
  have hk' : k = n - 1 := by omega
  subst hk'
  match xs, hxl, cs', hlen with
  | [y0, y1, y2, y3, y4], _, [v0, v1, v2, v3, v4], _ =>
    have g0 := hf 0 f0 rfl
    have g1 := hf 1 f1 rfl
    have g2 := hf 2 f2 rfl
    have g3 := hf 3 f3 rfl
    have g4 := hf 4 f4 rfl
    simp [o0, o1, o2, o3, o4, c0, c1, c2, c3, c4] at g0 g1 g2 g3 g4
    have e0 := hcell 0 (by omega)
    have e1 := hcell 1 (by omega)
    have e2 := hcell 2 (by omega)
    have e3 := hcell 3 (by omega)
    have e4 := hcell 4 (by omega)
    rw [add_add] at e0 e1 e2 e3 e4
    simp only [Prod.mk.injEq] at hxy
    exact ⟨v0, v1, v2, v3, v4, y0, y1, y2, y3, y4, by simpa using e0, by simpa using e1, by simpa using e2, by simpa using e3, by simpa using e4, hxy.1, g0, g1, g2, g3, g4⟩
end
theorem add_pl (b off k : Nat) : (⟨b, off, none⟩ : Addr).add k = ⟨b, off + k, none⟩ := by unfold Addr.add; split <;> simp_all
set_option maxRecDepth 100000 in
theorem calls_arg {H : Type} {enc : TypeId × Value → H} {W : World} {spare : Nat → Bool} {held : Bool} {fuel len cap : Nat} {a0 : Option Addr} {x : DataW H × List MemPlace}
    (h : DataW.trod enc Tryz.prog W 0 spare held fuel 27 (Value.slice a0 len cap).cells.toList = some x) :
    ∃ cs : List Cal, cs.length = len ∧ len ≤ cap ∧ len ≤ maxLen ∧ LayC W a0 cs ∧ LongC cs := by
  rcases open_fives Tryz.underlying27 Tryz.underlying43 (by kernel_rfl) rfl rfl rfl rfl rfl (by kernel_rfl) (by kernel_rfl) (by kernel_rfl) (by kernel_rfl) (by kernel_rfl) h with hcs | ⟨ad, len', cap', n, D, sp, hcs, hl, hm, hx, hcell⟩
  · simp [Value.cells] at hcs
    obtain ⟨rfl, rfl, rfl⟩ := hcs
    exact ⟨[], rfl, Nat.le_refl _, Nat.zero_le _, fun h0 => absurd h0 (by simp), fun c hc => by cases hc⟩
  · simp [Value.cells] at hcs
    obtain ⟨rfl, rfl, rfl⟩ := hcs
    have hlen : len ≤ maxLen := Nat.le_trans hl hm
    have hch : ∀ i, i < len → ∃ r : Cal, W.cell? (ad.add (i * 5)) = some (.int .i64 r.what) ∧ W.cell? (ad.add (i * 5 + 1)) = some (txt r.path) ∧ W.cell? (ad.add (i * 5 + 2)) = some (txt r.dest) ∧ W.cell? (ad.add (i * 5 + 3)) = some (txt r.data) ∧ W.cell? (ad.add (i * 5 + 4)) = some (.int .i64 r.mode) ∧ r.path.length ≤ maxLen ∧ r.dest.length ≤ maxLen := by
      intro i hi
      obtain ⟨v0, v1, v2, v3, v4, y0, y1, y2, y3, y4, e0, e1, e2, e3, e4, hD, t0, t1, t2, t3, t4⟩ := hcell i hi
      obtain ⟨k0, f0, _, _⟩ := DataW.trod_int (by exact Tryz.underlying3) t0
      obtain ⟨s1, f1, g1, w1⟩ := DataW.trod_string (by exact Tryz.underlying9) t1
      obtain ⟨s2, f2, g2, w2⟩ := DataW.trod_string (by exact Tryz.underlying9) t2
      obtain ⟨s3, f3, g3, w3⟩ := DataW.trod_string (by exact Tryz.underlying9) t3
      obtain ⟨k4, f4, _, _⟩ := DataW.trod_int (by exact Tryz.underlying3) t4
      simp only [List.cons.injEq, and_true] at f0 f1 f2 f3 f4
      exact ⟨⟨k0, s1.data.toList, s2.data.toList, s3.data.toList, k4⟩, by rw [e0, f0], by rw [e1, f1, txt_data], by rw [e2, f2, txt_data], by rw [e3, f3, txt_data], by rw [e4, f4], by show s1.data.toList.length ≤ _; rw [← Lib.size_eq]; exact w1, by show s2.data.toList.length ≤ _; rw [← Lib.size_eq]; exact w2⟩
    haveI : Inhabited Cal := ⟨⟨0, [], [], [], 0⟩⟩
    obtain ⟨R, hR⟩ := Deep.choose_lt hch
    have hrl : ((List.range len).map R).length = len := by simp
    refine ⟨(List.range len).map R, hrl, hl, hlen, fun h0 => ?_, fun c hc => ?_⟩
    · rw [hrl] at h0
      obtain ⟨b, off, spot⟩ := ad
      have c0 := (hR 0 (by omega)).1
      have hspot : spot = none := by simpa [Addr.add] using World.cell?_spot c0
      subst hspot
      rw [add_pl] at c0
      refine ⟨b, off, rfl, (World.block_lt_of_cell? _ _ c0 :), fun k r hk => ?_⟩
      have hkl : k < len := by have := (List.getElem?_eq_some_iff.1 hk).1; rw [hrl] at this; exact this
      rw [List.getElem?_map, List.getElem?_range hkl] at hk
      simp only [Option.map_some, Option.some.injEq] at hk
      subst hk
      obtain ⟨d0, d1, d2, d3, d4, _⟩ := hR k hkl
      rw [add_pl] at d0 d1 d2 d3 d4
      exact ⟨d0, by rw [← d1, Nat.add_assoc], by rw [← d2, Nat.add_assoc], by rw [← d3, Nat.add_assoc], by rw [← d4, Nat.add_assoc]⟩
    · obtain ⟨i, hi, rfl⟩ := List.mem_map.1 hc
      have := hR i (List.mem_range.1 hi)
      exact this.2.2.2.2.2
end DA
end Go.Proofs.YtjkikkpbeceeeaaGreatDoor
end

section
/- Layer 7: the contract of the statements' ask. -/
namespace Go.Proofs.YtjkikkpbeceeeaaGreatDoor
open Go.RowKit Go.Lib Go.BigFrame
namespace DG
open OM TP TM DP DM TG TR FP

set_option maxRecDepth 100000 in
set_option maxHeartbeats 6400000 in
theorem ask_write {w W : World} {S : Nat → Prop} {P m : Nat} {D : Dk} (h : DS w W S P m D) (he : NF.Env w) (hm : m ≤ 100000) (c : Cal) (hk : c.what = 0) (hp : c.path.length ≤ maxLen) (hq : c.dest.length ≤ maxLen) :
    Calls Tryz.prog 19 #[.pointer (some ⟨P, 0, none⟩), calV c] W (AskPost w W S P (m + 1) (askD D c)) := by
  obtain ⟨wh, p, q, dt, md⟩ := c
  simp only at hk hp hq
  subst hk
  obtain ⟨X, hX, hXd⟩ := txt_of p
  obtain ⟨Y, hY, hYd⟩ := txt_of q
  obtain ⟨V, hV, hVd⟩ := txt_of dt
  have HA : Hid (askD D ⟨0, p, q, dt, md⟩ = ((writeD D p dt md).1, errA (writeD D p dt md).2)) := Lib.hid (by unfold askD; rw [if_pos rfl])
  have HI5 := Lib.hid (ask5_is W 0 md X Y V)
  have CX : Hid (∀ W5, Ask5 W W5 0 md X Y V → Calls Tryz.prog 12 #[.pointer (some ⟨P, 0, none⟩), .string X, .string V, .int .i64 md] W5 fun r W6 => r = .returned (.int .i64 (writeD D p dt md).2) ∧ Aft w W5 S P (m + 1) (writeD D p dt md).1 W6) := Lib.hid (fun W5 h5 => by
    have h' := h.below h5.bel
    have := h'.write he hm p dt md (by exact hp)
    rw [hX, hV] at this
    exact this)
  have HD := Lib.hid h
  unfold calV
  simp only
  rw [HA.out, hX, hY, hV]
  obtain ⟨W5, hW5⟩ : ∃ z, ask5 W 0 md X Y V = z := ⟨_, rfl⟩
  rw [hW5] at HI5
  unfold ask5 at hW5
  obtain ⟨d0, d1, d2, d3, d4, d5⟩ := row5c HI5.out.r0
  obtain ⟨-, -, -, -, tf⟩ := row4 HI5.out.r3
  have CY := Lib.hid (CX.out W5 HI5.out)
  clear h he hm hp hq hX hY hV hXd hYd hVd
  go_enter Tryz.func19, Tryz.ntmps19
  repeat (first | (go_at_call 12; fail) | go_skip | go_guarded | go_step | go_upon)
  try rw [hW5]
  refine CY.out.mono ?_
  rintro r W6 ⟨rfl, S6, h6, hs6, ho6⟩
  simp only []
  obtain ⟨r1, r2, r3, r4⟩ := HI5.out.keep HD.out ho6
  obtain ⟨t0, t1, t2, t3, tf⟩ := row4 r1
  obtain ⟨s0, s1, s2, sf⟩ := row3 r2
  obtain ⟨y0, y1, y2, y3, yf⟩ := row4 r3
  obtain ⟨x0, x1, x2, xf⟩ := row3 r4
  have H6 := Lib.hid h6
  have HS6 := Lib.hid hs6
  have HO6 := Lib.hid ho6
  clear h6 hs6 ho6 r1 r2 r3 r4 d0 d1 d2 d3 d4 d5
  repeat (first | go_skip | go_guarded | go_step | go_upon)
  go_region
  repeat (first | go_skip | go_guarded | go_step | go_upon)
  refine bodyPost_ret (v := .tuple #[.int .i64 (writeD D p dt md).2, .agg #[.string ⟨#[]⟩, .int .i64 0, .string ⟨#[]⟩, .int .i64 0], .agg #[.int .i64 0, .int .i64 0, .int .i64 0], .slice none 0 0]) ?_ rfl ⟨.slice none 0 0, rfl, World.ownsRow_nil _ _ _ _, ask_done HD.out HI5.out.bel HI5.out.size H6.out HS6.out HO6.out ?_ (fun g hg => by cases hg)⟩
  · rw [results_ask rfl]
    go_simp
  · exact out_ask7 _ _ _ _ _ _ _ _ _
set_option maxRecDepth 100000 in
set_option maxHeartbeats 6400000 in
theorem ask_mkdir {w W : World} {S : Nat → Prop} {P m : Nat} {D : Dk} (h : DS w W S P m D) (he : NF.Env w) (hm : m ≤ 100000) (c : Cal) (hk : c.what = 1) (hp : c.path.length ≤ maxLen) (hq : c.dest.length ≤ maxLen) :
    Calls Tryz.prog 19 #[.pointer (some ⟨P, 0, none⟩), calV c] W (AskPost w W S P (m + 1) (askD D c)) := by
  obtain ⟨wh, p, q, dt, md⟩ := c
  simp only at hk hp hq
  subst hk
  obtain ⟨X, hX, hXd⟩ := txt_of p
  obtain ⟨Y, hY, hYd⟩ := txt_of q
  obtain ⟨V, hV, hVd⟩ := txt_of dt
  have HA : Hid (askD D ⟨1, p, q, dt, md⟩ = ((mkdirD D p).1, errA (mkdirD D p).2)) := Lib.hid (by unfold askD; rw [if_neg (show ¬ ((1 : Int) = 0) by decide)]; rw [if_pos rfl])
  have HI5 := Lib.hid (ask5_is W 1 md X Y V)
  have CX : Hid (∀ W5, Ask5 W W5 1 md X Y V → Calls Tryz.prog 50 #[.pointer (some ⟨P, 0, none⟩), .string X] W5 fun r W6 => r = .returned (.int .i64 (mkdirD D p).2) ∧ Aft w W5 S P (m + 1) (mkdirD D p).1 W6) := Lib.hid (fun W5 h5 => by
    have h' := h.below h5.bel
    have := h'.mkdir he hm p hp
    rw [hX] at this
    exact this)
  have HD := Lib.hid h
  unfold calV
  simp only
  rw [HA.out, hX, hY, hV]
  obtain ⟨W5, hW5⟩ : ∃ z, ask5 W 1 md X Y V = z := ⟨_, rfl⟩
  rw [hW5] at HI5
  unfold ask5 at hW5
  obtain ⟨d0, d1, d2, d3, d4, d5⟩ := row5c HI5.out.r0
  obtain ⟨-, -, -, -, tf⟩ := row4 HI5.out.r3
  have CY := Lib.hid (CX.out W5 HI5.out)
  clear h he hm hp hq hX hY hV hXd hYd hVd
  go_enter Tryz.func19, Tryz.ntmps19
  repeat (first | (go_at_call 50; fail) | go_skip | go_guarded | go_step | go_upon)
  try rw [hW5]
  refine CY.out.mono ?_
  rintro r W6 ⟨rfl, S6, h6, hs6, ho6⟩
  simp only []
  obtain ⟨r1, r2, r3, r4⟩ := HI5.out.keep HD.out ho6
  obtain ⟨t0, t1, t2, t3, tf⟩ := row4 r1
  obtain ⟨s0, s1, s2, sf⟩ := row3 r2
  obtain ⟨y0, y1, y2, y3, yf⟩ := row4 r3
  obtain ⟨x0, x1, x2, xf⟩ := row3 r4
  have H6 := Lib.hid h6
  have HS6 := Lib.hid hs6
  have HO6 := Lib.hid ho6
  clear h6 hs6 ho6 r1 r2 r3 r4 d0 d1 d2 d3 d4 d5
  repeat (first | go_skip | go_guarded | go_step | go_upon)
  go_region
  repeat (first | go_skip | go_guarded | go_step | go_upon)
  refine bodyPost_ret (v := .tuple #[.int .i64 (mkdirD D p).2, .agg #[.string ⟨#[]⟩, .int .i64 0, .string ⟨#[]⟩, .int .i64 0], .agg #[.int .i64 0, .int .i64 0, .int .i64 0], .slice none 0 0]) ?_ rfl ⟨.slice none 0 0, rfl, World.ownsRow_nil _ _ _ _, ask_done HD.out HI5.out.bel HI5.out.size H6.out HS6.out HO6.out ?_ (fun g hg => by cases hg)⟩
  · rw [results_ask rfl]
    go_simp
  · exact out_ask7 _ _ _ _ _ _ _ _ _
set_option maxRecDepth 100000 in
set_option maxHeartbeats 6400000 in
theorem ask_link {w W : World} {S : Nat → Prop} {P m : Nat} {D : Dk} (h : DS w W S P m D) (he : NF.Env w) (hm : m ≤ 100000) (c : Cal) (hk : c.what = 2) (hp : c.path.length ≤ maxLen) (hq : c.dest.length ≤ maxLen) :
    Calls Tryz.prog 19 #[.pointer (some ⟨P, 0, none⟩), calV c] W (AskPost w W S P (m + 1) (askD D c)) := by
  obtain ⟨wh, p, q, dt, md⟩ := c
  simp only at hk hp hq
  subst hk
  obtain ⟨X, hX, hXd⟩ := txt_of p
  obtain ⟨Y, hY, hYd⟩ := txt_of q
  obtain ⟨V, hV, hVd⟩ := txt_of dt
  have HA : Hid (askD D ⟨2, p, q, dt, md⟩ = ((linkD D p q).1, errA (linkD D p q).2)) := Lib.hid (by unfold askD; rw [if_neg (show ¬ ((2 : Int) = 0) by decide)]; rw [if_neg (show ¬ ((2 : Int) = 1) by decide)]; rw [if_pos rfl])
  have HI5 := Lib.hid (ask5_is W 2 md X Y V)
  have CX : Hid (∀ W5, Ask5 W W5 2 md X Y V → Calls Tryz.prog 51 #[.pointer (some ⟨P, 0, none⟩), .string X, .string Y] W5 fun r W6 => r = .returned (.int .i64 (linkD D p q).2) ∧ Aft w W5 S P (m + 1) (linkD D p q).1 W6) := Lib.hid (fun W5 h5 => by
    have h' := h.below h5.bel
    have := h'.link he hm p q hp hq
    rw [hX, hY] at this
    exact this)
  have HD := Lib.hid h
  unfold calV
  simp only
  rw [HA.out, hX, hY, hV]
  obtain ⟨W5, hW5⟩ : ∃ z, ask5 W 2 md X Y V = z := ⟨_, rfl⟩
  rw [hW5] at HI5
  unfold ask5 at hW5
  obtain ⟨d0, d1, d2, d3, d4, d5⟩ := row5c HI5.out.r0
  obtain ⟨-, -, -, -, tf⟩ := row4 HI5.out.r3
  have CY := Lib.hid (CX.out W5 HI5.out)
  clear h he hm hp hq hX hY hV hXd hYd hVd
  go_enter Tryz.func19, Tryz.ntmps19
  repeat (first | (go_at_call 51; fail) | go_skip | go_guarded | go_step | go_upon)
  try rw [hW5]
  refine CY.out.mono ?_
  rintro r W6 ⟨rfl, S6, h6, hs6, ho6⟩
  simp only []
  obtain ⟨r1, r2, r3, r4⟩ := HI5.out.keep HD.out ho6
  obtain ⟨t0, t1, t2, t3, tf⟩ := row4 r1
  obtain ⟨s0, s1, s2, sf⟩ := row3 r2
  obtain ⟨y0, y1, y2, y3, yf⟩ := row4 r3
  obtain ⟨x0, x1, x2, xf⟩ := row3 r4
  have H6 := Lib.hid h6
  have HS6 := Lib.hid hs6
  have HO6 := Lib.hid ho6
  clear h6 hs6 ho6 r1 r2 r3 r4 d0 d1 d2 d3 d4 d5
  repeat (first | go_skip | go_guarded | go_step | go_upon)
  go_region
  repeat (first | go_skip | go_guarded | go_step | go_upon)
  refine bodyPost_ret (v := .tuple #[.int .i64 (linkD D p q).2, .agg #[.string ⟨#[]⟩, .int .i64 0, .string ⟨#[]⟩, .int .i64 0], .agg #[.int .i64 0, .int .i64 0, .int .i64 0], .slice none 0 0]) ?_ rfl ⟨.slice none 0 0, rfl, World.ownsRow_nil _ _ _ _, ask_done HD.out HI5.out.bel HI5.out.size H6.out HS6.out HO6.out ?_ (fun g hg => by cases hg)⟩
  · rw [results_ask rfl]
    go_simp
  · exact out_ask7 _ _ _ _ _ _ _ _ _
set_option maxRecDepth 100000 in
set_option maxHeartbeats 6400000 in
theorem ask_remove {w W : World} {S : Nat → Prop} {P m : Nat} {D : Dk} (h : DS w W S P m D) (he : NF.Env w) (hm : m ≤ 100000) (c : Cal) (hk : c.what = 3) (hp : c.path.length ≤ maxLen) (hq : c.dest.length ≤ maxLen) :
    Calls Tryz.prog 19 #[.pointer (some ⟨P, 0, none⟩), calV c] W (AskPost w W S P (m + 1) (askD D c)) := by
  obtain ⟨wh, p, q, dt, md⟩ := c
  simp only at hk hp hq
  subst hk
  obtain ⟨X, hX, hXd⟩ := txt_of p
  obtain ⟨Y, hY, hYd⟩ := txt_of q
  obtain ⟨V, hV, hVd⟩ := txt_of dt
  have HA : Hid (askD D ⟨3, p, q, dt, md⟩ = ((removeD D p).1, errA (removeD D p).2)) := Lib.hid (by unfold askD; rw [if_neg (show ¬ ((3 : Int) = 0) by decide)]; rw [if_neg (show ¬ ((3 : Int) = 1) by decide)]; rw [if_neg (show ¬ ((3 : Int) = 2) by decide)]; rw [if_pos rfl])
  have HI5 := Lib.hid (ask5_is W 3 md X Y V)
  have CX : Hid (∀ W5, Ask5 W W5 3 md X Y V → Calls Tryz.prog 52 #[.pointer (some ⟨P, 0, none⟩), .string X] W5 fun r W6 => r = .returned (.int .i64 (removeD D p).2) ∧ Aft w W5 S P (m + 1) (removeD D p).1 W6) := Lib.hid (fun W5 h5 => by
    have h' := h.below h5.bel
    have := h'.remove he hm p hp
    rw [hX] at this
    exact this)
  have HD := Lib.hid h
  unfold calV
  simp only
  rw [HA.out, hX, hY, hV]
  obtain ⟨W5, hW5⟩ : ∃ z, ask5 W 3 md X Y V = z := ⟨_, rfl⟩
  rw [hW5] at HI5
  unfold ask5 at hW5
  obtain ⟨d0, d1, d2, d3, d4, d5⟩ := row5c HI5.out.r0
  obtain ⟨-, -, -, -, tf⟩ := row4 HI5.out.r3
  have CY := Lib.hid (CX.out W5 HI5.out)
  clear h he hm hp hq hX hY hV hXd hYd hVd
  go_enter Tryz.func19, Tryz.ntmps19
  repeat (first | (go_at_call 52; fail) | go_skip | go_guarded | go_step | go_upon)
  try rw [hW5]
  refine CY.out.mono ?_
  rintro r W6 ⟨rfl, S6, h6, hs6, ho6⟩
  simp only []
  obtain ⟨r1, r2, r3, r4⟩ := HI5.out.keep HD.out ho6
  obtain ⟨t0, t1, t2, t3, tf⟩ := row4 r1
  obtain ⟨s0, s1, s2, sf⟩ := row3 r2
  obtain ⟨y0, y1, y2, y3, yf⟩ := row4 r3
  obtain ⟨x0, x1, x2, xf⟩ := row3 r4
  have H6 := Lib.hid h6
  have HS6 := Lib.hid hs6
  have HO6 := Lib.hid ho6
  clear h6 hs6 ho6 r1 r2 r3 r4 d0 d1 d2 d3 d4 d5
  repeat (first | go_skip | go_guarded | go_step | go_upon)
  go_region
  repeat (first | go_skip | go_guarded | go_step | go_upon)
  refine bodyPost_ret (v := .tuple #[.int .i64 (removeD D p).2, .agg #[.string ⟨#[]⟩, .int .i64 0, .string ⟨#[]⟩, .int .i64 0], .agg #[.int .i64 0, .int .i64 0, .int .i64 0], .slice none 0 0]) ?_ rfl ⟨.slice none 0 0, rfl, World.ownsRow_nil _ _ _ _, ask_done HD.out HI5.out.bel HI5.out.size H6.out HS6.out HO6.out ?_ (fun g hg => by cases hg)⟩
  · rw [results_ask rfl]
    go_simp
  · exact out_ask7 _ _ _ _ _ _ _ _ _
set_option maxRecDepth 100000 in
set_option maxHeartbeats 6400000 in
theorem ask_move {w W : World} {S : Nat → Prop} {P m : Nat} {D : Dk} (h : DS w W S P m D) (he : NF.Env w) (hm : m ≤ 100000) (c : Cal) (hk : c.what = 4) (hp : c.path.length ≤ maxLen) (hq : c.dest.length ≤ maxLen) :
    Calls Tryz.prog 19 #[.pointer (some ⟨P, 0, none⟩), calV c] W (AskPost w W S P (m + 1) (askD D c)) := by
  obtain ⟨wh, p, q, dt, md⟩ := c
  simp only at hk hp hq
  subst hk
  obtain ⟨X, hX, hXd⟩ := txt_of p
  obtain ⟨Y, hY, hYd⟩ := txt_of q
  obtain ⟨V, hV, hVd⟩ := txt_of dt
  have HA : Hid (askD D ⟨4, p, q, dt, md⟩ = ((moveD D p q).1, errA (moveD D p q).2)) := Lib.hid (by unfold askD; rw [if_neg (show ¬ ((4 : Int) = 0) by decide)]; rw [if_neg (show ¬ ((4 : Int) = 1) by decide)]; rw [if_neg (show ¬ ((4 : Int) = 2) by decide)]; rw [if_neg (show ¬ ((4 : Int) = 3) by decide)]; rw [if_pos rfl])
  have HI5 := Lib.hid (ask5_is W 4 md X Y V)
  have CX : Hid (∀ W5, Ask5 W W5 4 md X Y V → Calls Tryz.prog 53 #[.pointer (some ⟨P, 0, none⟩), .string X, .string Y] W5 fun r W6 => r = .returned (.int .i64 (moveD D p q).2) ∧ Aft w W5 S P (m + 1) (moveD D p q).1 W6) := Lib.hid (fun W5 h5 => by
    have h' := h.below h5.bel
    have := h'.move he hm p q hp hq
    rw [hX, hY] at this
    exact this)
  have HD := Lib.hid h
  unfold calV
  simp only
  rw [HA.out, hX, hY, hV]
  obtain ⟨W5, hW5⟩ : ∃ z, ask5 W 4 md X Y V = z := ⟨_, rfl⟩
  rw [hW5] at HI5
  unfold ask5 at hW5
  obtain ⟨d0, d1, d2, d3, d4, d5⟩ := row5c HI5.out.r0
  obtain ⟨-, -, -, -, tf⟩ := row4 HI5.out.r3
  have CY := Lib.hid (CX.out W5 HI5.out)
  clear h he hm hp hq hX hY hV hXd hYd hVd
  go_enter Tryz.func19, Tryz.ntmps19
  repeat (first | (go_at_call 53; fail) | go_skip | go_guarded | go_step | go_upon)
  try rw [hW5]
  refine CY.out.mono ?_
  rintro r W6 ⟨rfl, S6, h6, hs6, ho6⟩
  simp only []
  obtain ⟨r1, r2, r3, r4⟩ := HI5.out.keep HD.out ho6
  obtain ⟨t0, t1, t2, t3, tf⟩ := row4 r1
  obtain ⟨s0, s1, s2, sf⟩ := row3 r2
  obtain ⟨y0, y1, y2, y3, yf⟩ := row4 r3
  obtain ⟨x0, x1, x2, xf⟩ := row3 r4
  have H6 := Lib.hid h6
  have HS6 := Lib.hid hs6
  have HO6 := Lib.hid ho6
  clear h6 hs6 ho6 r1 r2 r3 r4 d0 d1 d2 d3 d4 d5
  repeat (first | go_skip | go_guarded | go_step | go_upon)
  go_region
  repeat (first | go_skip | go_guarded | go_step | go_upon)
  refine bodyPost_ret (v := .tuple #[.int .i64 (moveD D p q).2, .agg #[.string ⟨#[]⟩, .int .i64 0, .string ⟨#[]⟩, .int .i64 0], .agg #[.int .i64 0, .int .i64 0, .int .i64 0], .slice none 0 0]) ?_ rfl ⟨.slice none 0 0, rfl, World.ownsRow_nil _ _ _ _, ask_done HD.out HI5.out.bel HI5.out.size H6.out HS6.out HO6.out ?_ (fun g hg => by cases hg)⟩
  · rw [results_ask rfl]
    go_simp
  · exact out_ask7 _ _ _ _ _ _ _ _ _
set_option maxRecDepth 100000 in
set_option maxHeartbeats 6400000 in
theorem ask_replace {w W : World} {S : Nat → Prop} {P m : Nat} {D : Dk} (h : DS w W S P m D) (he : NF.Env w) (hm : m ≤ 100000) (c : Cal) (hk : c.what = 5) (hp : c.path.length ≤ maxLen) (hq : c.dest.length ≤ maxLen) :
    Calls Tryz.prog 19 #[.pointer (some ⟨P, 0, none⟩), calV c] W (AskPost w W S P (m + 1) (askD D c)) := by
  obtain ⟨wh, p, q, dt, md⟩ := c
  simp only at hk hp hq
  subst hk
  obtain ⟨X, hX, hXd⟩ := txt_of p
  obtain ⟨Y, hY, hYd⟩ := txt_of q
  obtain ⟨V, hV, hVd⟩ := txt_of dt
  have HA : Hid (askD D ⟨5, p, q, dt, md⟩ = ((replaceD D p q).1, errA (replaceD D p q).2)) := Lib.hid (by unfold askD; rw [if_neg (show ¬ ((5 : Int) = 0) by decide)]; rw [if_neg (show ¬ ((5 : Int) = 1) by decide)]; rw [if_neg (show ¬ ((5 : Int) = 2) by decide)]; rw [if_neg (show ¬ ((5 : Int) = 3) by decide)]; rw [if_neg (show ¬ ((5 : Int) = 4) by decide)]; rw [if_pos rfl])
  have HI5 := Lib.hid (ask5_is W 5 md X Y V)
  have CX : Hid (∀ W5, Ask5 W W5 5 md X Y V → Calls Tryz.prog 29 #[.pointer (some ⟨P, 0, none⟩), .string X, .string Y] W5 fun r W6 => r = .returned (.int .i64 (replaceD D p q).2) ∧ Aft w W5 S P (m + 1) (replaceD D p q).1 W6) := Lib.hid (fun W5 h5 => by
    have h' := h.below h5.bel
    have := h'.replace he hm p q hp hq
    rw [hX, hY] at this
    exact this)
  have HD := Lib.hid h
  unfold calV
  simp only
  rw [HA.out, hX, hY, hV]
  obtain ⟨W5, hW5⟩ : ∃ z, ask5 W 5 md X Y V = z := ⟨_, rfl⟩
  rw [hW5] at HI5
  unfold ask5 at hW5
  obtain ⟨d0, d1, d2, d3, d4, d5⟩ := row5c HI5.out.r0
  obtain ⟨-, -, -, -, tf⟩ := row4 HI5.out.r3
  have CY := Lib.hid (CX.out W5 HI5.out)
  clear h he hm hp hq hX hY hV hXd hYd hVd
  go_enter Tryz.func19, Tryz.ntmps19
  repeat (first | (go_at_call 29; fail) | go_skip | go_guarded | go_step | go_upon)
  try rw [hW5]
  refine CY.out.mono ?_
  rintro r W6 ⟨rfl, S6, h6, hs6, ho6⟩
  simp only []
  obtain ⟨r1, r2, r3, r4⟩ := HI5.out.keep HD.out ho6
  obtain ⟨t0, t1, t2, t3, tf⟩ := row4 r1
  obtain ⟨s0, s1, s2, sf⟩ := row3 r2
  obtain ⟨y0, y1, y2, y3, yf⟩ := row4 r3
  obtain ⟨x0, x1, x2, xf⟩ := row3 r4
  have H6 := Lib.hid h6
  have HS6 := Lib.hid hs6
  have HO6 := Lib.hid ho6
  clear h6 hs6 ho6 r1 r2 r3 r4 d0 d1 d2 d3 d4 d5
  repeat (first | go_skip | go_guarded | go_step | go_upon)
  go_region
  repeat (first | go_skip | go_guarded | go_step | go_upon)
  refine bodyPost_ret (v := .tuple #[.int .i64 (replaceD D p q).2, .agg #[.string ⟨#[]⟩, .int .i64 0, .string ⟨#[]⟩, .int .i64 0], .agg #[.int .i64 0, .int .i64 0, .int .i64 0], .slice none 0 0]) ?_ rfl ⟨.slice none 0 0, rfl, World.ownsRow_nil _ _ _ _, ask_done HD.out HI5.out.bel HI5.out.size H6.out HS6.out HO6.out ?_ (fun g hg => by cases hg)⟩
  · rw [results_ask rfl]
    go_simp
  · exact out_ask7 _ _ _ _ _ _ _ _ _
set_option maxRecDepth 100000 in
set_option maxHeartbeats 6400000 in
theorem ask_sync {w W : World} {S : Nat → Prop} {P m : Nat} {D : Dk} (h : DS w W S P m D) (he : NF.Env w) (hm : m ≤ 100000) (c : Cal) (hk : c.what = 6) (hp : c.path.length ≤ maxLen) (hq : c.dest.length ≤ maxLen) :
    Calls Tryz.prog 19 #[.pointer (some ⟨P, 0, none⟩), calV c] W (AskPost w W S P (m + 1) (askD D c)) := by
  obtain ⟨wh, p, q, dt, md⟩ := c
  simp only at hk hp hq
  subst hk
  obtain ⟨X, hX, hXd⟩ := txt_of p
  obtain ⟨Y, hY, hYd⟩ := txt_of q
  obtain ⟨V, hV, hVd⟩ := txt_of dt
  have HA : Hid (askD D ⟨6, p, q, dt, md⟩ = ((syncD D p).1, errA (syncD D p).2)) := Lib.hid (by unfold askD; rw [if_neg (show ¬ ((6 : Int) = 0) by decide)]; rw [if_neg (show ¬ ((6 : Int) = 1) by decide)]; rw [if_neg (show ¬ ((6 : Int) = 2) by decide)]; rw [if_neg (show ¬ ((6 : Int) = 3) by decide)]; rw [if_neg (show ¬ ((6 : Int) = 4) by decide)]; rw [if_neg (show ¬ ((6 : Int) = 5) by decide)]; rw [if_pos rfl])
  have HI5 := Lib.hid (ask5_is W 6 md X Y V)
  have CX : Hid (∀ W5, Ask5 W W5 6 md X Y V → Calls Tryz.prog 26 #[.pointer (some ⟨P, 0, none⟩), .string X] W5 fun r W6 => r = .returned (.int .i64 (syncD D p).2) ∧ Aft w W5 S P (m + 1) (syncD D p).1 W6) := Lib.hid (fun W5 h5 => by
    have h' := h.below h5.bel
    have := h'.sync he hm p hp
    rw [hX] at this
    exact this)
  have HD := Lib.hid h
  unfold calV
  simp only
  rw [HA.out, hX, hY, hV]
  obtain ⟨W5, hW5⟩ : ∃ z, ask5 W 6 md X Y V = z := ⟨_, rfl⟩
  rw [hW5] at HI5
  unfold ask5 at hW5
  obtain ⟨d0, d1, d2, d3, d4, d5⟩ := row5c HI5.out.r0
  obtain ⟨-, -, -, -, tf⟩ := row4 HI5.out.r3
  have CY := Lib.hid (CX.out W5 HI5.out)
  clear h he hm hp hq hX hY hV hXd hYd hVd
  go_enter Tryz.func19, Tryz.ntmps19
  repeat (first | (go_at_call 26; fail) | go_skip | go_guarded | go_step | go_upon)
  try rw [hW5]
  refine CY.out.mono ?_
  rintro r W6 ⟨rfl, S6, h6, hs6, ho6⟩
  simp only []
  obtain ⟨r1, r2, r3, r4⟩ := HI5.out.keep HD.out ho6
  obtain ⟨t0, t1, t2, t3, tf⟩ := row4 r1
  obtain ⟨s0, s1, s2, sf⟩ := row3 r2
  obtain ⟨y0, y1, y2, y3, yf⟩ := row4 r3
  obtain ⟨x0, x1, x2, xf⟩ := row3 r4
  have H6 := Lib.hid h6
  have HS6 := Lib.hid hs6
  have HO6 := Lib.hid ho6
  clear h6 hs6 ho6 r1 r2 r3 r4 d0 d1 d2 d3 d4 d5
  repeat (first | go_skip | go_guarded | go_step | go_upon)
  go_region
  repeat (first | go_skip | go_guarded | go_step | go_upon)
  refine bodyPost_ret (v := .tuple #[.int .i64 (syncD D p).2, .agg #[.string ⟨#[]⟩, .int .i64 0, .string ⟨#[]⟩, .int .i64 0], .agg #[.int .i64 0, .int .i64 0, .int .i64 0], .slice none 0 0]) ?_ rfl ⟨.slice none 0 0, rfl, World.ownsRow_nil _ _ _ _, ask_done HD.out HI5.out.bel HI5.out.size H6.out HS6.out HO6.out ?_ (fun g hg => by cases hg)⟩
  · rw [results_ask rfl]
    go_simp
  · exact out_ask7 _ _ _ _ _ _ _ _ _
set_option maxRecDepth 100000 in
set_option maxHeartbeats 6400000 in
theorem ask_flush {w W : World} {S : Nat → Prop} {P m : Nat} {D : Dk} (h : DS w W S P m D) (he : NF.Env w) (hm : m ≤ 100000) (c : Cal) (hk : c.what = 7) (hp : c.path.length ≤ maxLen) (hq : c.dest.length ≤ maxLen) :
    Calls Tryz.prog 19 #[.pointer (some ⟨P, 0, none⟩), calV c] W (AskPost w W S P (m + 1) (askD D c)) := by
  obtain ⟨wh, p, q, dt, md⟩ := c
  simp only at hk hp hq
  subst hk
  obtain ⟨X, hX, hXd⟩ := txt_of p
  obtain ⟨Y, hY, hYd⟩ := txt_of q
  obtain ⟨V, hV, hVd⟩ := txt_of dt
  have HA : Hid (askD D ⟨7, p, q, dt, md⟩ = ((flushD D).1, errA (flushD D).2)) := Lib.hid (by unfold askD; rw [if_neg (show ¬ ((7 : Int) = 0) by decide)]; rw [if_neg (show ¬ ((7 : Int) = 1) by decide)]; rw [if_neg (show ¬ ((7 : Int) = 2) by decide)]; rw [if_neg (show ¬ ((7 : Int) = 3) by decide)]; rw [if_neg (show ¬ ((7 : Int) = 4) by decide)]; rw [if_neg (show ¬ ((7 : Int) = 5) by decide)]; rw [if_neg (show ¬ ((7 : Int) = 6) by decide)]; rw [if_pos rfl])
  have HI5 := Lib.hid (ask5_is W 7 md X Y V)
  have CX : Hid (∀ W5, Ask5 W W5 7 md X Y V → Calls Tryz.prog 27 #[.pointer (some ⟨P, 0, none⟩)] W5 fun r W6 => r = .returned (.int .i64 (flushD D).2) ∧ Aft w W5 S P (m + 1) (flushD D).1 W6) := Lib.hid (fun W5 h5 => by
    have h' := h.below h5.bel
    have := h'.flush he hm 
    exact this)
  have HD := Lib.hid h
  unfold calV
  simp only
  rw [HA.out, hX, hY, hV]
  obtain ⟨W5, hW5⟩ : ∃ z, ask5 W 7 md X Y V = z := ⟨_, rfl⟩
  rw [hW5] at HI5
  unfold ask5 at hW5
  obtain ⟨d0, d1, d2, d3, d4, d5⟩ := row5c HI5.out.r0
  obtain ⟨-, -, -, -, tf⟩ := row4 HI5.out.r3
  have CY := Lib.hid (CX.out W5 HI5.out)
  clear h he hm hp hq hX hY hV hXd hYd hVd
  go_enter Tryz.func19, Tryz.ntmps19
  repeat (first | (go_at_call 27; fail) | go_skip | go_guarded | go_step | go_upon)
  try rw [hW5]
  refine CY.out.mono ?_
  rintro r W6 ⟨rfl, S6, h6, hs6, ho6⟩
  simp only []
  obtain ⟨r1, r2, r3, r4⟩ := HI5.out.keep HD.out ho6
  obtain ⟨t0, t1, t2, t3, tf⟩ := row4 r1
  obtain ⟨s0, s1, s2, sf⟩ := row3 r2
  obtain ⟨y0, y1, y2, y3, yf⟩ := row4 r3
  obtain ⟨x0, x1, x2, xf⟩ := row3 r4
  have H6 := Lib.hid h6
  have HS6 := Lib.hid hs6
  have HO6 := Lib.hid ho6
  clear h6 hs6 ho6 r1 r2 r3 r4 d0 d1 d2 d3 d4 d5
  repeat (first | go_skip | go_guarded | go_step | go_upon)
  go_region
  repeat (first | go_skip | go_guarded | go_step | go_upon)
  refine bodyPost_ret (v := .tuple #[.int .i64 (flushD D).2, .agg #[.string ⟨#[]⟩, .int .i64 0, .string ⟨#[]⟩, .int .i64 0], .agg #[.int .i64 0, .int .i64 0, .int .i64 0], .slice none 0 0]) ?_ rfl ⟨.slice none 0 0, rfl, World.ownsRow_nil _ _ _ _, ask_done HD.out HI5.out.bel HI5.out.size H6.out HS6.out HO6.out ?_ (fun g hg => by cases hg)⟩
  · rw [results_ask rfl]
    go_simp
  · exact out_ask7 _ _ _ _ _ _ _ _ _
set_option maxRecDepth 100000 in
set_option maxHeartbeats 6400000 in
theorem ask_get {w W : World} {S : Nat → Prop} {P m : Nat} {D : Dk} (h : DS w W S P m D) (he : NF.Env w) (hm : m ≤ 100000) (c : Cal) (hk : c.what = 8) (hp : c.path.length ≤ maxLen) (hq : c.dest.length ≤ maxLen) :
    Calls Tryz.prog 19 #[.pointer (some ⟨P, 0, none⟩), calV c] W (AskPost w W S P (m + 1) (askD D c)) := by
  obtain ⟨wh, p, q, dt, md⟩ := c
  simp only at hk hp hq
  subst hk
  obtain ⟨X, hX, hXd⟩ := txt_of p
  obtain ⟨Y, hY, hYd⟩ := txt_of q
  obtain ⟨V, hV, hVd⟩ := txt_of dt
  have HA : Hid (askD D ⟨8, p, q, dt, md⟩ = ((getD D p).1, ⟨(getD D p).2.2.2, (getD D p).2.1, (getD D p).2.2.1, []⟩)) := Lib.hid (by unfold askD; rw [if_neg (show ¬ ((8 : Int) = 0) by decide)]; rw [if_neg (show ¬ ((8 : Int) = 1) by decide)]; rw [if_neg (show ¬ ((8 : Int) = 2) by decide)]; rw [if_neg (show ¬ ((8 : Int) = 3) by decide)]; rw [if_neg (show ¬ ((8 : Int) = 4) by decide)]; rw [if_neg (show ¬ ((8 : Int) = 5) by decide)]; rw [if_neg (show ¬ ((8 : Int) = 6) by decide)]; rw [if_neg (show ¬ ((8 : Int) = 7) by decide)]; rw [if_pos rfl])
  have HI5 := Lib.hid (ask5_is W 8 md X Y V)
  have CX : Hid (∀ W5, Ask5 W W5 8 md X Y V → Calls Tryz.prog 28 #[.pointer (some ⟨P, 0, none⟩), .string X] W5 fun r W6 => r = .returned (.tuple #[ndVal (getD D p).2.1, stampVal (getD D p).2.2.1, .int .i64 (getD D p).2.2.2]) ∧ Aft w W5 S P (m + 1) (getD D p).1 W6) := Lib.hid (fun W5 h5 => by
    have h' := h.below h5.bel
    have := h'.get he hm p hp
    rw [hX] at this
    exact this)
  have HD := Lib.hid h
  unfold calV
  simp only
  rw [HA.out, hX, hY, hV]
  obtain ⟨W5, hW5⟩ : ∃ z, ask5 W 8 md X Y V = z := ⟨_, rfl⟩
  rw [hW5] at HI5
  unfold ask5 at hW5
  obtain ⟨Zg, hZg⟩ : ∃ z, DP.getD D p = z := ⟨_, rfl⟩
  rw [hZg] at CX ⊢
  obtain ⟨E9, ⟨gp, gk, gd, gm⟩, ⟨st1, st2, st3⟩, ge⟩ := Zg
  obtain ⟨X1, hX1, _⟩ := txt_of gp
  obtain ⟨X2, hX2, _⟩ := txt_of gd
  unfold ndVal stampVal at CX
  simp only at CX ⊢
  rw [hX1, hX2] at CX
  have HG1 := Lib.hid hX1
  have HG2 := Lib.hid hX2
  clear hZg hX1 hX2
  obtain ⟨d0, d1, d2, d3, d4, d5⟩ := row5c HI5.out.r0
  obtain ⟨-, -, -, -, tf⟩ := row4 HI5.out.r3
  have CY := Lib.hid (CX.out W5 HI5.out)
  clear h he hm hp hq hX hY hV hXd hYd hVd
  go_enter Tryz.func19, Tryz.ntmps19
  repeat (first | (go_at_call 28; fail) | go_skip | go_guarded | go_step | go_upon)
  try rw [hW5]
  refine CY.out.mono ?_
  rintro r W6 ⟨rfl, S6, h6, hs6, ho6⟩
  simp only []
  obtain ⟨r1, r2, r3, r4⟩ := HI5.out.keep HD.out ho6
  obtain ⟨t0, t1, t2, t3, tf⟩ := row4 r1
  obtain ⟨s0, s1, s2, sf⟩ := row3 r2
  obtain ⟨y0, y1, y2, y3, yf⟩ := row4 r3
  obtain ⟨x0, x1, x2, xf⟩ := row3 r4
  have H6 := Lib.hid h6
  have HS6 := Lib.hid hs6
  have HO6 := Lib.hid ho6
  clear h6 hs6 ho6 r1 r2 r3 r4 d0 d1 d2 d3 d4 d5
  repeat (first | go_skip | go_guarded | go_step | go_upon)
  go_region
  repeat (first | go_skip | go_guarded | go_step | go_upon)
  refine bodyPost_ret (v := .tuple #[.int .i64 ge, .agg #[.string X1, .int .i64 gk, .string X2, .int .i64 gm], .agg #[.int .i64 st1, .int .i64 st2, .int .i64 st3], .slice none 0 0]) ?_ rfl ⟨.slice none 0 0, ?_, World.ownsRow_nil _ _ _ _, ask_done HD.out HI5.out.bel HI5.out.size H6.out HS6.out HO6.out ?_ (fun g hg => by cases hg)⟩
  · rw [results_ask rfl]
    go_simp
  · unfold ndVal stampVal
    simp only
    rw [HG1.out, HG2.out]
  · exact out_ask14 _ _ _ _ _ _ _ _ _ _ _ _ _ _ _ _
set_option maxRecDepth 100000 in
set_option maxHeartbeats 6400000 in
theorem ask_names {w W : World} {S : Nat → Prop} {P m : Nat} {D : Dk} (h : DS w W S P m D) (he : NF.Env w) (hm : m ≤ 100000) (c : Cal) (hk : c.what = 9) (hp : c.path.length ≤ maxLen) (hq : c.dest.length ≤ maxLen) :
    Calls Tryz.prog 19 #[.pointer (some ⟨P, 0, none⟩), calV c] W (AskPost w W S P (m + 1) (askD D c)) := by
  obtain ⟨wh, p, q, dt, md⟩ := c
  simp only at hk hp hq
  subst hk
  obtain ⟨X, hX, hXd⟩ := txt_of p
  obtain ⟨Y, hY, hYd⟩ := txt_of q
  obtain ⟨V, hV, hVd⟩ := txt_of dt
  have HA : Hid (askD D ⟨9, p, q, dt, md⟩ = ((namesR D p).1, ⟨(namesR D p).2, nodeZ, stampZ, lastsR (namesR D p) p⟩)) := Lib.hid (by unfold askD; rw [if_neg (show ¬ ((9 : Int) = 0) by decide)]; rw [if_neg (show ¬ ((9 : Int) = 1) by decide)]; rw [if_neg (show ¬ ((9 : Int) = 2) by decide)]; rw [if_neg (show ¬ ((9 : Int) = 3) by decide)]; rw [if_neg (show ¬ ((9 : Int) = 4) by decide)]; rw [if_neg (show ¬ ((9 : Int) = 5) by decide)]; rw [if_neg (show ¬ ((9 : Int) = 6) by decide)]; rw [if_neg (show ¬ ((9 : Int) = 7) by decide)]; rw [if_neg (show ¬ ((9 : Int) = 8) by decide)]; rw [if_pos rfl])
  have HI5 := Lib.hid (ask5_is W 9 md X Y V)
  have CX : Hid (∀ W5, Ask5 W W5 9 md X Y V → Calls Tryz.prog 30 #[.pointer (some ⟨P, 0, none⟩), .string X] W5 fun r W6 => ∃ v, r = .returned (.tuple #[v, .int .i64 (namesR D p).2]) ∧ W6.ownsRow W5.heap.size 9 1 v (lastsR (namesR D p) p).length ((lastsR (namesR D p) p).map txt) ∧ AftN w W5 S P (m + 1) (namesR D p).1 v W6) := Lib.hid (fun W5 h5 => by
    have h' := h.below h5.bel
    have := h'.names he hm p hp
    rw [hX] at this
    exact this)
  have HD := Lib.hid h
  unfold calV
  simp only
  rw [HA.out, hX, hY, hV]
  obtain ⟨W5, hW5⟩ : ∃ z, ask5 W 9 md X Y V = z := ⟨_, rfl⟩
  rw [hW5] at HI5
  unfold ask5 at hW5
  obtain ⟨d0, d1, d2, d3, d4, d5⟩ := row5c HI5.out.r0
  obtain ⟨-, -, -, -, tf⟩ := row4 HI5.out.r3
  have CY := Lib.hid (CX.out W5 HI5.out)
  clear h he hm hp hq hX hY hV hXd hYd hVd
  go_enter Tryz.func19, Tryz.ntmps19
  repeat (first | (go_at_call 30; fail) | go_skip | go_guarded | go_step | go_upon)
  try rw [hW5]
  refine CY.out.mono ?_
  rintro r W6 ⟨v, rfl, ho, S6, h6, hs6, ho6, hg6⟩
  obtain ⟨av, cv, hv, _⟩ := owns_view ho
  obtain ⟨nv, hnv⟩ : ∃ n, (lastsR (namesR D p) p).length = n := ⟨_, rfl⟩
  have HNv := Lib.hid hnv
  rw [hnv] at hv
  subst hv
  have HOw := Lib.hid ho
  have HG6 := Lib.hid hg6
  clear ho hg6 hnv
  simp only []
  obtain ⟨r1, r2, r3, r4⟩ := HI5.out.keep HD.out ho6
  obtain ⟨t0, t1, t2, t3, tf⟩ := row4 r1
  obtain ⟨s0, s1, s2, sf⟩ := row3 r2
  obtain ⟨y0, y1, y2, y3, yf⟩ := row4 r3
  obtain ⟨x0, x1, x2, xf⟩ := row3 r4
  have H6 := Lib.hid h6
  have HS6 := Lib.hid hs6
  have HO6 := Lib.hid ho6
  clear h6 hs6 ho6 r1 r2 r3 r4 d0 d1 d2 d3 d4 d5
  repeat (first | go_skip | go_guarded | go_step | go_upon)
  go_region
  repeat (first | go_skip | go_guarded | go_step | go_upon)
  refine bodyPost_ret (v := .tuple #[.int .i64 (namesR D p).2, .agg #[.string ⟨#[]⟩, .int .i64 0, .string ⟨#[]⟩, .int .i64 0], .agg #[.int .i64 0, .int .i64 0, .int .i64 0], .slice av nv cv]) ?_ rfl ⟨.slice av nv cv, rfl, ?_, ask_done HD.out HI5.out.bel HI5.out.size H6.out HS6.out HO6.out ?_ HG6.out⟩
  · rw [results_ask rfl]
    go_simp
  · rw [HNv.out]
    have h1 := owns_base HOw.out W.heap.size HI5.out.bel.size
    rw [HNv.out] at h1
    refine Out.owns (S := fun k => W.heap.size + 1 ≤ k ∧ k ≤ W.heap.size + 4) (w := W6) ?_ h1 (fun g hg => by
      have := (HOw.out.lt g (by rw [← hg])).1
      have := HI5.out.size
      omega)
    exact out_ask7 _ _ _ _ _ _ _ _ _
  · exact out_ask7 _ _ _ _ _ _ _ _ _
set_option maxRecDepth 100000 in
set_option maxHeartbeats 6400000 in
theorem ask_boot {w W : World} {S : Nat → Prop} {P m : Nat} {D : Dk} (h : DS w W S P m D) (he : NF.Env w) (hm : m ≤ 100000) (c : Cal) (hk : c.what = 10) (hp : c.path.length ≤ maxLen) (hq : c.dest.length ≤ maxLen) :
    Calls Tryz.prog 19 #[.pointer (some ⟨P, 0, none⟩), calV c] W (AskPost w W S P (m + 1) (askD D c)) := by
  obtain ⟨wh, p, q, dt, md⟩ := c
  simp only at hk hp hq
  subst hk
  obtain ⟨X, hX, hXd⟩ := txt_of p
  obtain ⟨Y, hY, hYd⟩ := txt_of q
  obtain ⟨V, hV, hVd⟩ := txt_of dt
  have HA : Hid (askD D ⟨10, p, q, dt, md⟩ = (bootD D [] [], errA 0)) := Lib.hid (by unfold askD; rw [if_neg (show ¬ ((10 : Int) = 0) by decide)]; rw [if_neg (show ¬ ((10 : Int) = 1) by decide)]; rw [if_neg (show ¬ ((10 : Int) = 2) by decide)]; rw [if_neg (show ¬ ((10 : Int) = 3) by decide)]; rw [if_neg (show ¬ ((10 : Int) = 4) by decide)]; rw [if_neg (show ¬ ((10 : Int) = 5) by decide)]; rw [if_neg (show ¬ ((10 : Int) = 6) by decide)]; rw [if_neg (show ¬ ((10 : Int) = 7) by decide)]; rw [if_neg (show ¬ ((10 : Int) = 8) by decide)]; rw [if_neg (show ¬ ((10 : Int) = 9) by decide)]; rw [if_pos rfl])
  have HI5 := Lib.hid (ask5_is W 10 md X Y V)
  have CX : Hid (∀ W5, Ask5 W W5 10 md X Y V → Calls Tryz.prog 17 #[.pointer (some ⟨P, 0, none⟩), .slice none 0 0, .slice none 0 0] W5 fun r W6 => r = .returned (.tuple #[]) ∧ Aft w W5 S P (m + 1) (bootD D [] []) W6) := Lib.hid (fun W5 h5 => by
    have h' := h.below h5.bel
    refine h'.boot0.mono ?_
    rintro r W6 ⟨hr, S6, h6, h7, h8⟩
    exact ⟨hr, S6, h6.mono (by omega), h7, h8⟩)
  have HD := Lib.hid h
  unfold calV
  simp only
  rw [HA.out, hX, hY, hV]
  obtain ⟨W5, hW5⟩ : ∃ z, ask5 W 10 md X Y V = z := ⟨_, rfl⟩
  rw [hW5] at HI5
  unfold ask5 at hW5
  obtain ⟨d0, d1, d2, d3, d4, d5⟩ := row5c HI5.out.r0
  obtain ⟨-, -, -, -, tf⟩ := row4 HI5.out.r3
  have CY := Lib.hid (CX.out W5 HI5.out)
  clear h he hm hp hq hX hY hV hXd hYd hVd
  go_enter Tryz.func19, Tryz.ntmps19
  repeat (first | (go_at_call 17; fail) | go_skip | go_guarded | go_step | go_upon)
  try rw [hW5]
  refine CY.out.mono ?_
  rintro r W6 ⟨rfl, S6, h6, hs6, ho6⟩
  simp only []
  obtain ⟨r1, r2, r3, r4⟩ := HI5.out.keep HD.out ho6
  obtain ⟨t0, t1, t2, t3, tf⟩ := row4 r1
  obtain ⟨s0, s1, s2, sf⟩ := row3 r2
  obtain ⟨y0, y1, y2, y3, yf⟩ := row4 r3
  obtain ⟨x0, x1, x2, xf⟩ := row3 r4
  have H6 := Lib.hid h6
  have HS6 := Lib.hid hs6
  have HO6 := Lib.hid ho6
  clear h6 hs6 ho6 r1 r2 r3 r4 d0 d1 d2 d3 d4 d5
  repeat (first | go_skip | go_guarded | go_step | go_upon)
  go_region
  repeat (first | go_skip | go_guarded | go_step | go_upon)
  refine bodyPost_ret (v := .tuple #[.int .i64 0, .agg #[.string ⟨#[]⟩, .int .i64 0, .string ⟨#[]⟩, .int .i64 0], .agg #[.int .i64 0, .int .i64 0, .int .i64 0], .slice none 0 0]) ?_ rfl ⟨.slice none 0 0, rfl, World.ownsRow_nil _ _ _ _, ask_done HD.out HI5.out.bel HI5.out.size H6.out HS6.out HO6.out ?_ (fun g hg => by cases hg)⟩
  · rw [results_ask rfl]
    go_simp
  · exact out_ask7 _ _ _ _ _ _ _ _ _
set_option maxRecDepth 100000 in
set_option maxHeartbeats 6400000 in
theorem ask_none {w W : World} {S : Nat → Prop} {P m : Nat} {D : Dk} (h : DS w W S P m D) (he : NF.Env w) (hm : m ≤ 100000) (c : Cal) (hk : c.what ≠ 0 ∧ c.what ≠ 1 ∧ c.what ≠ 2 ∧ c.what ≠ 3 ∧ c.what ≠ 4 ∧ c.what ≠ 5 ∧ c.what ≠ 6 ∧ c.what ≠ 7 ∧ c.what ≠ 8 ∧ c.what ≠ 9 ∧ c.what ≠ 10) (hp : c.path.length ≤ maxLen) (hq : c.dest.length ≤ maxLen) :
    Calls Tryz.prog 19 #[.pointer (some ⟨P, 0, none⟩), calV c] W (AskPost w W S P (m + 1) (askD D c)) := by
  obtain ⟨wh, p, q, dt, md⟩ := c
  simp only at hk hp hq
  obtain ⟨X, hX, hXd⟩ := txt_of p
  obtain ⟨Y, hY, hYd⟩ := txt_of q
  obtain ⟨V, hV, hVd⟩ := txt_of dt
  have HA : Hid (askD D ⟨wh, p, q, dt, md⟩ = (D, errA 0)) := Lib.hid (by obtain ⟨h0, h1, h2, h3, h4, h5, h6, h7, h8, h9, h10⟩ := hk; unfold askD; rw [if_neg h0, if_neg h1, if_neg h2, if_neg h3, if_neg h4, if_neg h5, if_neg h6, if_neg h7, if_neg h8, if_neg h9, if_neg h10])
  obtain ⟨h0, h1, h2, h3, h4, h5, h6, h7, h8, h9, h10⟩ := hk
  have b0 : (wh == 0) = false := by simpa using h0
  have b1 : (wh == 1) = false := by simpa using h1
  have b2 : (wh == 2) = false := by simpa using h2
  have b3 : (wh == 3) = false := by simpa using h3
  have b4 : (wh == 4) = false := by simpa using h4
  have b5 : (wh == 5) = false := by simpa using h5
  have b6 : (wh == 6) = false := by simpa using h6
  have b7 : (wh == 7) = false := by simpa using h7
  have b8 : (wh == 8) = false := by simpa using h8
  have b9 : (wh == 9) = false := by simpa using h9
  have b10 : (wh == 10) = false := by simpa using h10
  clear h0 h1 h2 h3 h4 h5 h6 h7 h8 h9 h10
  have HI5 := Lib.hid (ask5_is W wh md X Y V)
  have CX : Hid (∀ W5, Ask5 W W5 wh md X Y V → DS w W5 S P (m + 1) D ∧ (∀ k, S k → S k ∨ W5.heap.size ≤ k) ∧ Out (fun k => S k ∨ k = P) W5 W5) := Lib.hid (fun W5 h5 => by
    have h' := h.below h5.bel
    exact ⟨h'.mono (by omega), fun k hk => .inl hk, Out.refl _ _⟩)
  have HD := Lib.hid h
  unfold calV
  simp only
  rw [HA.out, hX, hY, hV]
  obtain ⟨W5, hW5⟩ : ∃ z, ask5 W wh md X Y V = z := ⟨_, rfl⟩
  rw [hW5] at HI5
  unfold ask5 at hW5
  obtain ⟨d0, d1, d2, d3, d4, d5⟩ := row5c HI5.out.r0
  obtain ⟨-, -, -, -, tf⟩ := row4 HI5.out.r3
  have CY := Lib.hid (CX.out W5 HI5.out)
  clear h he hm hp hq hX hY hV hXd hYd hVd
  go_enter Tryz.func19, Tryz.ntmps19
  repeat (first | go_skip | go_guarded | go_step | go_upon)
  try rw [hW5]
  have h6 := CY.out.1
  have hs6 := CY.out.2.1
  have ho6 := CY.out.2.2
  obtain ⟨r1, r2, r3, r4⟩ := HI5.out.keep HD.out ho6
  obtain ⟨t0, t1, t2, t3, tf⟩ := row4 r1
  obtain ⟨s0, s1, s2, sf⟩ := row3 r2
  obtain ⟨y0, y1, y2, y3, yf⟩ := row4 r3
  obtain ⟨x0, x1, x2, xf⟩ := row3 r4
  have H6 := Lib.hid h6
  have HS6 := Lib.hid hs6
  have HO6 := Lib.hid ho6
  clear h6 hs6 ho6 r1 r2 r3 r4
  repeat (first | go_skip | go_guarded | go_step | go_upon)
  go_region
  repeat (first | go_skip | go_guarded | go_step | go_upon)
  refine bodyPost_ret (v := .tuple #[.int .i64 0, .agg #[.string ⟨#[]⟩, .int .i64 0, .string ⟨#[]⟩, .int .i64 0], .agg #[.int .i64 0, .int .i64 0, .int .i64 0], .slice none 0 0]) ?_ rfl ⟨.slice none 0 0, rfl, World.ownsRow_nil _ _ _ _, ask_done HD.out HI5.out.bel HI5.out.size H6.out HS6.out HO6.out ?_ (fun g hg => by cases hg)⟩
  · rw [results_ask rfl]
    go_simp
  · exact out_ask7 _ _ _ _ _ _ _ _ _
theorem ask_any {w W : World} {S : Nat → Prop} {P m : Nat} {D : Dk} (h : DS w W S P m D) (he : NF.Env w) (hm : m ≤ 100000) (c : Cal) (hp : c.path.length ≤ maxLen) (hq : c.dest.length ≤ maxLen) :
    Calls Tryz.prog 19 #[.pointer (some ⟨P, 0, none⟩), calV c] W (AskPost w W S P (m + 1) (askD D c)) := by
  by_cases h0 : c.what = 0
  · exact ask_write h he hm c h0 hp hq
  by_cases h1 : c.what = 1
  · exact ask_mkdir h he hm c h1 hp hq
  by_cases h2 : c.what = 2
  · exact ask_link h he hm c h2 hp hq
  by_cases h3 : c.what = 3
  · exact ask_remove h he hm c h3 hp hq
  by_cases h4 : c.what = 4
  · exact ask_move h he hm c h4 hp hq
  by_cases h5 : c.what = 5
  · exact ask_replace h he hm c h5 hp hq
  by_cases h6 : c.what = 6
  · exact ask_sync h he hm c h6 hp hq
  by_cases h7 : c.what = 7
  · exact ask_flush h he hm c h7 hp hq
  by_cases h8 : c.what = 8
  · exact ask_get h he hm c h8 hp hq
  by_cases h9 : c.what = 9
  · exact ask_names h he hm c h9 hp hq
  by_cases h10 : c.what = 10
  · exact ask_boot h he hm c h10 hp hq
  exact ask_none h he hm c ⟨h0, h1, h2, h3, h4, h5, h6, h7, h8, h9, h10⟩ hp hq
end DG
end Go.Proofs.YtjkikkpbeceeeaaGreatDoor
end

section
/- Layer 7 over lists: a file that is written beside, synced, and put in the place of another one. -/
namespace Go.Proofs.YtjkikkpbeceeeaaGreatDoor
open Go.RowKit Go.Lib Go.BigFrame
namespace DG
open OM TP TM DP DM TG TR FP

/-- A step of a disk that is on, without edits, with one fate: a crash. -/
theorem step_one (D : Dk) (c : Did) (at_ keep torn : Int) (h0 : D.off = false) (h1 : D.edits = []) (h2 : D.fates = [⟨at_, 3, keep, torn⟩]) :
    stepD D c = if at_ = (D.trace.length : Int) then (crashD { D with clock := D.clock + 1, trace := D.trace ++ [c] } keep torn, 75) else ({ D with clock := D.clock + 1, trace := D.trace ++ [c] }, 0) := by
  have hb : begunD D c = { D with clock := D.clock + 1, trace := D.trace ++ [c] } := by
    unfold begunD
    rw [h1]
    rfl
  have hf : fateD (begunD D c) = if at_ = (D.trace.length : Int) then ⟨at_, 3, keep, torn⟩ else fateZ := by
    rw [hb]
    unfold fateD fateOf
    show ((D.fates.find? _).getD fateZ) = _
    rw [h2, List.length_append, List.length_singleton, show ((D.trace.length + 1 : Nat) : Int) - 1 = (D.trace.length : Int) by omega]
    by_cases h : at_ = (D.trace.length : Int)
    · rw [if_pos h, List.find?_cons_of_pos (by simpa using h)]
      rfl
    · rw [if_neg h, List.find?_cons_of_neg (by simpa using h)]
      rfl
  unfold stepD
  rw [if_neg (by rw [h0]; simp), hf, hb]
  by_cases h : at_ = (D.trace.length : Int)
  · rw [if_pos h, if_pos h, if_pos rfl]
  · rw [if_neg h, if_neg h, if_neg (by decide), if_neg (by decide)]
/-- A step of a disk that is on, without edits and fates. -/
theorem step_calm (D : Dk) (c : Did) (h0 : D.off = false) (h1 : D.edits = []) (h2 : D.fates = []) : stepD D c = ({ D with clock := D.clock + 1, trace := D.trace ++ [c] }, 0) := by
  have hb : begunD D c = { D with clock := D.clock + 1, trace := D.trace ++ [c] } := by
    unfold begunD
    rw [h1]
    rfl
  have hf : fateD (begunD D c) = fateZ := by
    rw [hb]
    unfold fateD fateOf
    show ((D.fates.find? _).getD fateZ) = _
    rw [h2]
    rfl
  unfold stepD
  rw [if_neg (by rw [h0]; simp), hf, hb, if_neg (by decide), if_neg (by decide)]
section
variable (old dt : List UInt8) (at_ keep torn : Int)
def whF : List Fate := [⟨at_, 3, keep, torn⟩]
def wh1 : Dk := bootD (newD [⟨[102], 1, old, 0⟩]) (whF at_ keep torn) []
def whT1 : List Did := [⟨cWrite, [103], []⟩]
def whT2 : List Did := [⟨cWrite, [103], []⟩, ⟨cSync, [103], []⟩]
def whT3 : List Did := [⟨cWrite, [103], []⟩, ⟨cSync, [103], []⟩, ⟨cReplace, [103], [102]⟩]
def whT4 : List Did := [⟨cWrite, [103], []⟩, ⟨cSync, [103], []⟩, ⟨cReplace, [103], [102]⟩, ⟨cFlush, [], []⟩]
def whI (d : Bool) : List Ino := [⟨0, 1, 0, old, false⟩, ⟨1, 1, 0, dt, d⟩]
def wh1c : Dk := ⟨[en [102] 1], [en [102] 1], [], [⟨0, 1, 0, old, false⟩], false, 1, whT1, whF at_ keep torn, []⟩
def wh2 : Dk := ⟨[en [102] 1, en [103] 2], [en [102] 1], [[en [102] 1, en [103] 2]], whI old dt true, false, 1, whT1, whF at_ keep torn, []⟩
def wh2c : Dk := ⟨[en [102] 1, en [103] 2], [en [102] 1], [[en [102] 1, en [103] 2]], whI old dt true, false, 2, whT2, whF at_ keep torn, []⟩
def wh3 : Dk := ⟨[en [102] 1, en [103] 2], [en [102] 1], [[en [102] 1, en [103] 2]], whI old dt false, false, 2, whT2, whF at_ keep torn, []⟩
def wh3c : Dk := ⟨[en [102] 1, en [103] 2], [en [102] 1], [[en [102] 1, en [103] 2]], whI old dt false, false, 3, whT3, whF at_ keep torn, []⟩
def wh4 : Dk := ⟨[en [102] 2], [en [102] 1], [[en [102] 1, en [103] 2], [en [102] 2]], whI old dt false, false, 3, whT3, whF at_ keep torn, []⟩
def wh4c : Dk := ⟨[en [102] 2], [en [102] 1], [[en [102] 1, en [103] 2], [en [102] 2]], whI old dt false, false, 4, whT4, whF at_ keep torn, []⟩
def wh5 : Dk := ⟨[en [102] 2], [en [102] 2], [], whI old dt false, false, 4, whT4, whF at_ keep torn, []⟩
theorem wh_fate (h : at_ ≠ 0) : fateD (wh1c old at_ keep torn) = fateZ := by
  show ((whF at_ keep torn).find? fun f => decide (f.at_ = (0 : Int))).getD fateZ = fateZ
  unfold whF
  rw [List.find?_cons_of_neg (by simpa using h)]
  rfl
theorem wh_stand (hd : dt.length ≤ 65536) : standB ⟨[103], 1, dt, 0⟩ = true := by
  have h1 : rightB ⟨[], 1, dt, 0⟩ = true := by
    unfold rightB
    show (if (1 : Int) = 1 then _ else _) = true
    rw [if_pos rfl]
    show (decide (dt.length ≤ 65536) && decide ((0 : Int) ≤ 0) && decide ((0 : Int) ≤ 511)) = true
    rw [decide_eq_true hd]
    rfl
  unfold standB rightV
  simp only [h1]
  rfl
theorem wh_write (hd : dt.length ≤ 65536) : writeD (wh1 old at_ keep torn) [103] dt 0 = if at_ = 0 then (crashD (wh1c old at_ keep torn) keep torn, 75) else (wh2 old dt at_ keep torn, 0) := by
  have hst : stepD (wh1 old at_ keep torn) ⟨cWrite, [103], []⟩ = if at_ = 0 then (crashD (wh1c old at_ keep torn) keep torn, 75) else (wh1c old at_ keep torn, 0) := step_one _ _ at_ keep torn rfl rfl rfl
  unfold writeD
  rw [hst]
  by_cases h : at_ = 0
  · rw [if_pos h, if_pos h]
    rfl
  · rw [if_neg h, if_neg h, after_yes rfl]
    have he : writeE (wh1c old at_ keep torn) [103] dt 0 = 0 := by
      unfold writeE roomB
      rw [wh_stand dt hd, wh_fate old at_ keep torn h]
      rfl
    rw [he]
    rfl
theorem wh_sync : syncD (wh2 old dt at_ keep torn) [103] = if at_ = 1 then (crashD (wh2c old dt at_ keep torn) keep torn, 75) else (wh3 old dt at_ keep torn, 0) := by
  have hst : stepD (wh2 old dt at_ keep torn) ⟨cSync, [103], []⟩ = if at_ = 1 then (crashD (wh2c old dt at_ keep torn) keep torn, 75) else (wh2c old dt at_ keep torn, 0) := step_one _ _ at_ keep torn rfl rfl rfl
  unfold syncD
  rw [hst]
  by_cases h : at_ = 1
  · rw [if_pos h, if_pos h]
    rfl
  · rw [if_neg h, if_neg h, after_yes rfl]
    rfl
theorem wh_replace : replaceD (wh3 old dt at_ keep torn) [103] [102] = if at_ = 2 then (crashD (wh3c old dt at_ keep torn) keep torn, 75) else (wh4 old dt at_ keep torn, 0) := by
  have hst : stepD (wh3 old dt at_ keep torn) ⟨cReplace, [103], [102]⟩ = if at_ = 2 then (crashD (wh3c old dt at_ keep torn) keep torn, 75) else (wh3c old dt at_ keep torn, 0) := step_one _ _ at_ keep torn rfl rfl rfl
  unfold replaceD
  rw [hst]
  by_cases h : at_ = 2
  · rw [if_pos h, if_pos h]
    rfl
  · rw [if_neg h, if_neg h, after_yes rfl]
    rfl
theorem wh_flush : flushD (wh4 old dt at_ keep torn) = if at_ = 3 then (crashD (wh4c old dt at_ keep torn) keep torn, 75) else (wh5 old dt at_ keep torn, 0) := by
  have hst : stepD (wh4 old dt at_ keep torn) ⟨cFlush, [], []⟩ = if at_ = 3 then (crashD (wh4c old dt at_ keep torn) keep torn, 75) else (wh4c old dt at_ keep torn, 0) := step_one _ _ at_ keep torn rfl rfl rfl
  unfold flushD
  rw [hst]
  by_cases h : at_ = 3
  · rw [if_pos h, if_pos h]
    rfl
  · rw [if_neg h, if_neg h, after_yes rfl]
    rfl
/-- At f the old data stand, or the new ones. -/
def WhOk (D : Dk) : Prop := ∃ k : Int, findN D.names [102] = some (en [102] k) ∧ (inoOf D.inos k).kind = 1 ∧ ((inoOf D.inos k).data = old ∨ (inoOf D.inos k).data = dt)
theorem wh_get {D : Dk} (h : WhOk old dt D) : (getD (bootD D [] []) [102]).2.2.2 = 0 ∧ ((getD (bootD D [] []) [102]).2.1.data = old ∨ (getD (bootD D [] []) [102]).2.1.data = dt) := by
  obtain ⟨k, h1, h2, h3⟩ := h
  have hst := step_calm (bootD D [] []) ⟨cGet, [102], []⟩ rfl rfl rfl
  obtain ⟨E, hE⟩ : ∃ E, ({ bootD D [] [] with clock := (bootD D [] []).clock + 1, trace := (bootD D [] []).trace ++ [⟨cGet, [102], []⟩] } : Dk) = E := ⟨_, rfl⟩
  have e1 : E.names = D.names := by rw [← hE]; rfl
  have e2 : E.inos = D.inos := by rw [← hE]; rfl
  rw [hE] at hst
  have hk : kindD E [102] = 1 := by
    unfold kindD kindN
    rw [if_neg (by decide), e1, e2, h1]
    exact h2
  have hm : missE E [102] = 0 := by
    unfold missE
    rw [hk]
    decide +kernel
  have hg : gotN E [102] = ⟨[102], 1, (inoOf D.inos k).data, (inoOf D.inos k).mode⟩ := by
    unfold gotN
    rw [if_neg (by decide), e1, e2, h1]
    unfold nodeOf en
    simp only
    rw [h2]
  unfold getD
  rw [hst, after_yes rfl]
  unfold refuse
  rw [hm, if_pos rfl]
  show (if (0 : Int) = 0 then (E, (gotN E [102], gotS E [102], (0 : Int))) else _).2.2.2 = 0 ∧ _
  rw [if_pos rfl, hg]
  exact ⟨rfl, h3⟩
theorem wh_ok1 : WhOk old dt (crashD (wh1c old at_ keep torn) keep torn) := by
  have hk : keptD (wh1c old at_ keep torn) keep = [en [102] 1] := by
    unfold keptD keepN
    rw [show (wh1c old at_ keep torn).later.length = 0 from rfl, Nat.min_zero, if_pos rfl]
    rfl
  refine ⟨1, ?_, rfl, .inl rfl⟩
  show findN (keptD _ _) _ = _
  rw [hk]
  rfl
theorem wh_kept2 (D : Dk) (h : D.safe = [en [102] 1]) (hl : D.later = [[en [102] 1, en [103] 2]]) : findN (keptD D keep) [102] = some (en [102] 1) := by
  unfold keptD keepN
  rw [h, hl]
  by_cases hz : keep.toNat = 0
  · rw [hz, if_pos (by simp)]
    rfl
  · rw [show min keep.toNat ([[en [102] 1, en [103] 2]] : List (List Nd)).length = 1 by simp; omega, if_neg (by omega)]
    rfl
theorem wh_ok2 : WhOk old dt (crashD (wh2c old dt at_ keep torn) keep torn) := ⟨1, wh_kept2 keep _ rfl rfl, rfl, .inl rfl⟩
theorem wh_ok3 : WhOk old dt (crashD (wh3c old dt at_ keep torn) keep torn) := ⟨1, wh_kept2 keep _ rfl rfl, rfl, .inl rfl⟩
theorem wh_ok4 : WhOk old dt (crashD (wh4c old dt at_ keep torn) keep torn) := by
  have hk : findN (keptD (wh4c old dt at_ keep torn) keep) [102] = some (en [102] 1) ∨ findN (keptD (wh4c old dt at_ keep torn) keep) [102] = some (en [102] 2) := by
    unfold keptD keepN
    rw [show (wh4c old dt at_ keep torn).later = [[en [102] 1, en [103] 2], [en [102] 2]] from rfl, show (wh4c old dt at_ keep torn).safe = [en [102] 1] from rfl, show ([[en [102] 1, en [103] 2], [en [102] 2]] : List (List Nd)).length = 2 from rfl]
    rcases (by omega : min keep.toNat 2 = 0 ∨ min keep.toNat 2 = 1 ∨ min keep.toNat 2 = 2) with h | h | h
    · rw [h]; exact .inl rfl
    · rw [h]; exact .inl rfl
    · rw [h]; exact .inr rfl
  rcases hk with hk | hk
  · exact ⟨1, hk, rfl, .inl rfl⟩
  · exact ⟨2, hk, rfl, .inr rfl⟩
theorem wh_ok5 : WhOk old dt (wh5 old dt at_ keep torn) := ⟨2, rfl, rfl, .inr rfl⟩
/-- What each of the ways leaves. -/
theorem wh_all (hd : dt.length ≤ 65536) :
    ((writeD (wh1 old at_ keep torn) [103] dt 0).2 ≠ 0 → WhOk old dt (writeD (wh1 old at_ keep torn) [103] dt 0).1) ∧
    ((writeD (wh1 old at_ keep torn) [103] dt 0).2 = 0 → (syncD (writeD (wh1 old at_ keep torn) [103] dt 0).1 [103]).2 ≠ 0 → WhOk old dt (syncD (writeD (wh1 old at_ keep torn) [103] dt 0).1 [103]).1) ∧
    ((writeD (wh1 old at_ keep torn) [103] dt 0).2 = 0 → (syncD (writeD (wh1 old at_ keep torn) [103] dt 0).1 [103]).2 = 0 → (replaceD (syncD (writeD (wh1 old at_ keep torn) [103] dt 0).1 [103]).1 [103] [102]).2 ≠ 0 → WhOk old dt (replaceD (syncD (writeD (wh1 old at_ keep torn) [103] dt 0).1 [103]).1 [103] [102]).1) ∧
    ((writeD (wh1 old at_ keep torn) [103] dt 0).2 = 0 → (syncD (writeD (wh1 old at_ keep torn) [103] dt 0).1 [103]).2 = 0 → (replaceD (syncD (writeD (wh1 old at_ keep torn) [103] dt 0).1 [103]).1 [103] [102]).2 = 0 → WhOk old dt (flushD (replaceD (syncD (writeD (wh1 old at_ keep torn) [103] dt 0).1 [103]).1 [103] [102]).1).1) := by
  rw [wh_write old dt at_ keep torn hd]
  by_cases h0 : at_ = 0
  · rw [if_pos h0]
    exact ⟨fun _ => wh_ok1 .., (fun h => absurd h (by show ¬ (75 : Int) = 0; decide)), (fun h => absurd h (by show ¬ (75 : Int) = 0; decide)), (fun h => absurd h (by show ¬ (75 : Int) = 0; decide))⟩
  · rw [if_neg h0]
    simp only [wh_sync]
    by_cases h1 : at_ = 1
    · rw [if_pos h1]
      exact ⟨(fun h => absurd rfl h), fun _ _ => wh_ok2 .., (fun _ h => absurd h (by show ¬ (75 : Int) = 0; decide)), (fun _ h => absurd h (by show ¬ (75 : Int) = 0; decide))⟩
    · rw [if_neg h1]
      simp only [wh_replace]
      by_cases h2 : at_ = 2
      · rw [if_pos h2]
        exact ⟨(fun h => absurd rfl h), (fun _ h => absurd rfl h), fun _ _ _ => wh_ok3 .., (fun _ _ h => absurd h (by show ¬ (75 : Int) = 0; decide))⟩
      · rw [if_neg h2]
        simp only [wh_flush]
        refine ⟨(fun h => absurd rfl h), (fun _ h => absurd rfl h), (fun _ _ h => absurd rfl h), fun _ _ _ => ?_⟩
        by_cases h3 : at_ = 3
        · rw [if_pos h3]
          exact wh_ok4 ..
        · rw [if_neg h3]
          exact wh_ok5 ..
end
end DG
end Go.Proofs.YtjkikkpbeceeeaaGreatDoor
end

section
/- Layer 7: the walk of DiskWhole. -/
namespace Go.Proofs.YtjkikkpbeceeeaaGreatDoor
open Go.RowKit Go.Lib Go.BigFrame
namespace DG
open OM TP TM DP DM TG TR FP

theorem DS.rebase {w w1 W : World} {S : Nat → Prop} {P m : Nat} {D : Dk} (h : DS w1 W S P m D) (hb : Below w.heap.size w w1) : DS w W S P m D :=
  ⟨h.disk, fun k hk => Nat.le_trans hb.size (h.lo k hk), Nat.le_trans hb.size h.pl, Below.trans hb (h.bel.mono hb.size), h.num⟩
theorem wide_one {w : World} {n : Nd} {g : Nat} {X Y : ByteArray} (hr : w.heap[g]? = some (.cells #[.string X, .int .i64 n.kind, .string Y, .int .i64 n.mode] 45 (0, 0))) (hX : txt n.path = .string X) (hY : txt n.data = .string Y) (hl : n.path.length ≤ maxLen) : TW.Wide w (some ⟨g, 0, none⟩) 1 [n] := by
  obtain ⟨c0, c1, c2, c3, _⟩ := row4 hr
  refine ⟨fun _ => ⟨g, 0, rfl, (Array.getElem?_eq_some_iff.1 hr).1, fun k x hk => ?_⟩, (fun e => by cases e), Nat.le_refl _, fun x hx => ?_, by unfold maxLen; simp⟩
  · match k with
    | 0 =>
      simp at hk
      subst hk
      exact ⟨c0.trans (by rw [hX]), c1, c2.trans (by rw [hY]), c3⟩
    | k + 1 => simp at hk
  · rw [List.mem_singleton.1 hx]
    exact hl
theorem wh_tree (o : List UInt8) (h : o.length ≤ 65536) : treeB [⟨[102], 1, o, 0⟩] = true := by
  have h1 : rightB ⟨[102], 1, o, 0⟩ = true := by
    unfold rightB
    show (if (1 : Int) = 1 then _ else _) = true
    rw [if_pos rfl]
    show (decide (o.length ≤ 65536) && decide ((0 : Int) ≤ 0) && decide ((0 : Int) ≤ 511)) = true
    rw [decide_eq_true h]
    rfl
  refine (tree_iff _).2 ⟨by simp, List.pairwise_singleton _ _, fun n hn => ?_, fun n hn => ?_, fun n hn => ?_⟩
  · rw [List.mem_singleton.1 hn]
    show NP.pathL [102] = true
    decide +kernel
  · rw [List.mem_singleton.1 hn]
    exact h1
  · rw [List.mem_singleton.1 hn]
    exact .inl (by show NP.upL [102] = []; decide +kernel)
set_option maxRecDepth 100000 in
set_option maxHeartbeats 12800000 in
theorem whole_any (O V : ByteArray) (fa fw fk ft : Int) (w : World) (he : NF.Env w) :
    Calls Tryz.prog 5 #[.string O, .string V, .agg #[.int .i64 fa, .int .i64 fw, .int .i64 fk, .int .i64 ft]] w fun r w' => r = .returned (.bool true) ∧ Below w.heap.size w w' := by
  have HE := Lib.hid he
  have b0 : Below w.heap.size w (w.alloc (.cells #[.int .i64 fa, .int .i64 fw, .int .i64 fk, .int .i64 ft] 63)) := (Below.refl _ _).alloc (Nat.le_refl _) _
  have hr0 := heap_alloc_new w (.cells #[.int .i64 fa, .int .i64 fw, .int .i64 fk, .int .i64 ft] 63)
  obtain ⟨w0, hw0⟩ : ∃ W, w.alloc (.cells #[.int .i64 fa, .int .i64 fw, .int .i64 fk, .int .i64 ft] 63) = W := ⟨_, rfl⟩
  rw [hw0] at b0 hr0
  have CA := Lib.hid (awake_any w0 (he.below b0))
  have B0 := Lib.hid b0
  have HR0 := Lib.hid hr0
  have HZ0 : Hid (w.heap.size < w0.heap.size) := Lib.hid (Array.getElem?_eq_some_iff.1 hr0).1
  clear he b0 hr0
  go_enter Tryz.func5, Tryz.ntmps5
  repeat (first | (go_at_call 9; fail) | go_skip | go_guarded | go_step | go_upon)
  try rw [hw0]
  clear hw0
  refine CA.out.mono ?_
  rintro r w1 ⟨rfl, hb1⟩
  simp only []
  have B1 : Hid (Below w.heap.size w w1) := Lib.hid (Below.trans B0.out (hb1.mono B0.out.size))
  have HR1 : Hid (w1.heap[w.heap.size]? = _) := Lib.hid ((hb1.block _ HZ0.out).trans HR0.out)
  have HZ1 : Hid (w.heap.size < w1.heap.size) := Lib.hid (Nat.lt_of_lt_of_le HZ0.out hb1.size)
  clear hb1
  by_cases hO : O.size ≤ 65536
  · have hOz : ¬ (65536 : Int) < (O.size : Int) := by omega
    by_cases hV : V.size ≤ 65536
    · have hVz : ¬ (65536 : Int) < (V.size : Int) := by omega
      have hOl : O.data.toList.length ≤ 65536 := by rw [← Lib.size_eq]; exact hO
      have HVl : Hid (V.data.toList.length ≤ 65536) := Lib.hid (by rw [← Lib.size_eq]; exact hV)
      have CN : Hid (Calls Tryz.prog 10 #[.slice (some ⟨w1.heap.size, 0, none⟩) 1 1] (w1.alloc (.cells #[.string ⟨#[102]⟩, .int .i64 1, .string O, .int .i64 0] 45)) fun r w' => ∃ S P, r = .returned (.tuple #[.pointer (some ⟨P, 0, none⟩), .int .i64 0]) ∧ DS (w1.alloc (.cells #[.string ⟨#[102]⟩, .int .i64 1, .string O, .int .i64 0] 45)) w' S P 0 (newD [⟨[102], 1, O.data.toList, 0⟩])) := Lib.hid (by
        refine new_ds (t := [⟨[102], 1, O.data.toList, 0⟩]) (HE.out.below (B1.out.alloc B1.out.size _)) (wide_one (heap_alloc_new w1 _) rfl (TM.txt_data O) (by show (1 : Nat) ≤ maxLen; unfold maxLen; omega)) (wh_tree _ hOl))
      have BA : Hid (Below w.heap.size w (w1.alloc (.cells #[.string ⟨#[102]⟩, .int .i64 1, .string O, .int .i64 0] 45))) := Lib.hid (B1.out.alloc B1.out.size _)
      clear hO hV hOl
      repeat (first | (go_at_call 10; fail) | go_skip | go_guarded | go_step | go_upon)
      refine CN.out.mono ?_
      rintro r w2 ⟨S, P, rfl, h2⟩
      simp only []
      have hbox : w2.heap[w.heap.size]? = some (.cells #[.int .i64 fa, .int .i64 fw, .int .i64 fk, .int .i64 ft] 63 (0, 0)) := (h2.bel.block _ (by have := HZ1.out; simp; omega)).trans ((Below.heap_alloc w1 _ _ HZ1.out).trans HR1.out)
      have hS : ¬ S w.heap.size ∧ w.heap.size ≠ P := by
        have h5 := HZ1.out
        refine ⟨fun h => ?_, ?_⟩
        · have := h2.lo _ h; simp at this; omega
        · have := h2.pl; simp at this; omega
      have h3 := h2.rebase BA.out
      have D3 : Hid (DS w (w2.setCell ⟨w.heap.size, 1, none⟩ (.int .i64 3)) S P 0 (newD [⟨[102], 1, O.data.toList, 0⟩])) := Lib.hid (by
        have u : Out (fun k => k = w.heap.size) w2 (w2.setCell ⟨w.heap.size, 1, none⟩ (.int .i64 3)) := (Out.refl (fun k => k = w.heap.size) w2).setCell (p := ⟨w.heap.size, 1, none⟩) (fun _ => rfl) _
        exact h3.out u (fun k hk => by
          have hk2 : k = w.heap.size := hk
          rw [hk2]
          exact ⟨hS.1, hS.2, Nat.le_refl _⟩))
      have hbox2 := row_set (j := 1) hbox (.int .i64 3)
      obtain ⟨c0, c1, c2, c3, cf⟩ := row4 hbox
      obtain ⟨k0, k1, k2, k3, kf⟩ := row4 (show (w2.setCell ⟨w.heap.size, 1, none⟩ (.int .i64 3)).heap[w.heap.size]? = some (.cells #[.int .i64 fa, .int .i64 3, .int .i64 fk, .int .i64 ft] 63 (0, 0)) from hbox2)
      clear h2 h3 hbox hbox2 hS
      repeat (first | (go_at_call 17; fail) | go_skip | go_guarded | go_step | go_upon)
      have CB := Lib.hid (D3.out.boot1 ⟨fa, 3, fk, ft⟩ rfl)
      rw [set_size] at CB
      refine CB.out.mono ?_
      rintro r w4 ⟨rfl, S4, h4, _, _⟩
      simp only []
      have CW : Hid (Calls Tryz.prog 12 #[.pointer (some ⟨P, 0, none⟩), .string ⟨#[103]⟩, .string V, .int .i64 0] w4 fun r W' => r = .returned (.int .i64 (writeD (wh1 O.data.toList fa fk ft) [103] V.data.toList 0).2) ∧ Aft w w4 S4 P 1 (writeD (wh1 O.data.toList fa fk ft) [103] V.data.toList 0).1 W') := Lib.hid (by
        have h4' : DS w w4 S4 P 0 (wh1 O.data.toList fa fk ft) := h4
        have := h4'.write HE.out (by omega) [103] V.data.toList 0 (by show (1 : Nat) ≤ maxLen; unfold maxLen; omega)
        rw [TM.txt_data V] at this
        exact this)
      obtain ⟨hw1, hw2, hw3, hw4⟩ := wh_all O.data.toList V.data.toList fa fk ft HVl.out
      obtain ⟨⟨DA, eA⟩, hA⟩ : ∃ z, writeD (wh1 O.data.toList fa fk ft) [103] V.data.toList 0 = z := ⟨_, rfl⟩
      rw [hA] at CW hw1 hw2 hw3 hw4
      simp only at CW hw1 hw2 hw3 hw4
      have H1 := Lib.hid hw1
      have H2 := Lib.hid hw2
      have H3 := Lib.hid hw3
      have H4 := Lib.hid hw4
      clear h4 hA hw1 hw2 hw3 hw4 k0 k1 k2 k3 kf c0 c1 c2 c3 cf
      repeat (first | (go_at_call 12; fail) | go_skip | go_guarded | go_step | go_upon)
      refine CW.out.mono ?_
      rintro r w5 ⟨rfl, S5, h5, _, _⟩
      simp only []
      have D5 := Lib.hid h5
      clear h5
      by_cases z1 : eA = 0
      · subst z1
        have CS : Hid (Calls Tryz.prog 26 #[.pointer (some ⟨P, 0, none⟩), .string ⟨#[103]⟩] w5 fun r W' => r = .returned (.int .i64 (syncD DA [103]).2) ∧ Aft w w5 S5 P 2 (syncD DA [103]).1 W') := Lib.hid (D5.out.sync HE.out (by omega) [103] (by show (1 : Nat) ≤ maxLen; unfold maxLen; omega))
        have H2' := Lib.hid (H2.out rfl)
        have H3' := Lib.hid (H3.out rfl)
        have H4' := Lib.hid (H4.out rfl)
        obtain ⟨⟨DB, eB⟩, hB⟩ : ∃ z, syncD DA [103] = z := ⟨_, rfl⟩
        rw [hB] at CS H2' H3' H4'
        simp only at CS H2' H3' H4'
        clear hB
        repeat (first | (go_at_call 26; fail) | go_skip | go_guarded | go_step | go_upon)
        refine CS.out.mono ?_
        rintro r w6 ⟨rfl, S6, h6, _, _⟩
        simp only []
        have D6 := Lib.hid h6
        clear h6
        by_cases z2 : eB = 0
        · subst z2
          have CR : Hid (Calls Tryz.prog 29 #[.pointer (some ⟨P, 0, none⟩), .string ⟨#[103]⟩, .string ⟨#[102]⟩] w6 fun r W' => r = .returned (.int .i64 (replaceD DB [103] [102]).2) ∧ Aft w w6 S6 P 3 (replaceD DB [103] [102]).1 W') := Lib.hid (D6.out.replace HE.out (by omega) [103] [102] (by show (1 : Nat) ≤ maxLen; unfold maxLen; omega) (by show (1 : Nat) ≤ maxLen; unfold maxLen; omega))
          have H3q := Lib.hid (H3'.out rfl)
          have H4q := Lib.hid (H4'.out rfl)
          obtain ⟨⟨DC, eC⟩, hC⟩ : ∃ z, replaceD DB [103] [102] = z := ⟨_, rfl⟩
          rw [hC] at CR H3q H4q
          simp only at CR H3q H4q
          clear hC
          repeat (first | (go_at_call 29; fail) | go_skip | go_guarded | go_step | go_upon)
          refine CR.out.mono ?_
          rintro r w7 ⟨rfl, S7, h7, _, _⟩
          simp only []
          have D7 := Lib.hid h7
          clear h7
          by_cases z3 : eC = 0
          · subst z3
            have CF := Lib.hid (D7.out.flush HE.out (by omega))
            have HOk0 := Lib.hid (H4q.out rfl)
            obtain ⟨⟨Dx, eD⟩, hD⟩ : ∃ z, flushD DC = z := ⟨_, rfl⟩
            rw [hD] at CF HOk0
            simp only at CF HOk0
            have HOk := HOk0
            clear hD
            repeat (first | (go_at_call 27; fail) | go_skip | go_guarded | go_step | go_upon)
            refine CF.out.mono ?_
            rintro r w8 ⟨rfl, S8, h8, _, _⟩
            simp only []
            have HDx := Lib.hid h8
            clear h8
            have CB := Lib.hid HDx.out.boot0
            repeat (first | (go_at_call 17; fail) | go_skip | go_guarded | go_step | go_upon)
            refine CB.out.mono ?_
            rintro r wb ⟨rfl, Sb, hb, _, _⟩
            simp only []
            have CG := Lib.hid (hb.get HE.out (by omega) [102] (by show (1 : Nat) ≤ maxLen; unfold maxLen; omega))
            have HBb := Lib.hid hb.bel
            obtain ⟨hz, hdat⟩ := wh_get _ _ HOk.out
            obtain ⟨Z, hZ⟩ : ∃ Z, DP.getD (bootD Dx [] []) [102] = Z := ⟨_, rfl⟩
            rw [hZ] at CG hz hdat
            obtain ⟨E9, ⟨np, nk, nd, nm⟩, ⟨s1, s2, s3⟩, e9⟩ := Z
            simp only at hz hdat
            subst hz
            obtain ⟨X1, hX1, _⟩ := txt_of np
            obtain ⟨X2, hX2, hX2d⟩ := txt_of nd
            unfold ndVal stampVal at CG
            simp only at CG
            rw [hX1, hX2] at CG
            have hcmp : (X2.toList == O.toList) = true ∨ ((X2.toList == O.toList) = false ∧ (X2.toList == V.toList) = true) := by
              rw [Lib.toList_data, Lib.toList_data, Lib.toList_data, hX2d]
              by_cases hq : nd = O.data.toList
              · exact .inl (by rw [hq]; simp)
              · refine .inr ⟨by simpa using hq, ?_⟩
                rcases hdat with h | h
                · exact absurd h hq
                · rw [h]; simp
            clear hb hX1 hX2 hX2d hdat
            rcases hcmp with hc1 | ⟨hc1, hc2⟩
            all_goals
              repeat (first | (go_at_call 28; fail) | go_skip | go_guarded | go_step | go_upon)
              refine CG.out.mono ?_
              rintro r w9 ⟨rfl, S9, h9, _, _⟩
              simp only []
              have HB9 := Lib.hid h9.bel
              clear h9
              repeat (first | go_skip | go_guarded | go_step | go_upon)
              go_ret
              exact ⟨rfl, ((((HB9.out.alloc HB9.out.size _).alloc (by simp; have := HB9.out.size; omega) _)))⟩
          · have hz3 : (eC == 0) = false := by simpa using z3
            obtain ⟨Dx, hDx⟩ : ∃ D, DC = D := ⟨_, rfl⟩
            have HOk := Lib.hid (H3q.out z3)
            rw [hDx] at HOk D7
            have HDx := D7
            clear z3 hDx
            have CB := Lib.hid HDx.out.boot0
            repeat (first | (go_at_call 17; fail) | go_skip | go_guarded | go_step | go_upon)
            refine CB.out.mono ?_
            rintro r wb ⟨rfl, Sb, hb, _, _⟩
            simp only []
            have CG := Lib.hid (hb.get HE.out (by omega) [102] (by show (1 : Nat) ≤ maxLen; unfold maxLen; omega))
            have HBb := Lib.hid hb.bel
            obtain ⟨hz, hdat⟩ := wh_get _ _ HOk.out
            obtain ⟨Z, hZ⟩ : ∃ Z, DP.getD (bootD Dx [] []) [102] = Z := ⟨_, rfl⟩
            rw [hZ] at CG hz hdat
            obtain ⟨E9, ⟨np, nk, nd, nm⟩, ⟨s1, s2, s3⟩, e9⟩ := Z
            simp only at hz hdat
            subst hz
            obtain ⟨X1, hX1, _⟩ := txt_of np
            obtain ⟨X2, hX2, hX2d⟩ := txt_of nd
            unfold ndVal stampVal at CG
            simp only at CG
            rw [hX1, hX2] at CG
            have hcmp : (X2.toList == O.toList) = true ∨ ((X2.toList == O.toList) = false ∧ (X2.toList == V.toList) = true) := by
              rw [Lib.toList_data, Lib.toList_data, Lib.toList_data, hX2d]
              by_cases hq : nd = O.data.toList
              · exact .inl (by rw [hq]; simp)
              · refine .inr ⟨by simpa using hq, ?_⟩
                rcases hdat with h | h
                · exact absurd h hq
                · rw [h]; simp
            clear hb hX1 hX2 hX2d hdat
            rcases hcmp with hc1 | ⟨hc1, hc2⟩
            all_goals
              repeat (first | (go_at_call 28; fail) | go_skip | go_guarded | go_step | go_upon)
              refine CG.out.mono ?_
              rintro r w9 ⟨rfl, S9, h9, _, _⟩
              simp only []
              have HB9 := Lib.hid h9.bel
              clear h9
              repeat (first | go_skip | go_guarded | go_step | go_upon)
              go_ret
              exact ⟨rfl, ((((HB9.out.alloc HB9.out.size _).alloc (by simp; have := HB9.out.size; omega) _)))⟩
        · have hz2 : (eB == 0) = false := by simpa using z2
          obtain ⟨Dx, hDx⟩ : ∃ D, DB = D := ⟨_, rfl⟩
          have HOk := Lib.hid (H2'.out z2)
          rw [hDx] at HOk D6
          have HDx := D6
          clear z2 hDx H3' H4'
          have CB := Lib.hid HDx.out.boot0
          repeat (first | (go_at_call 17; fail) | go_skip | go_guarded | go_step | go_upon)
          refine CB.out.mono ?_
          rintro r wb ⟨rfl, Sb, hb, _, _⟩
          simp only []
          have CG := Lib.hid (hb.get HE.out (by omega) [102] (by show (1 : Nat) ≤ maxLen; unfold maxLen; omega))
          have HBb := Lib.hid hb.bel
          obtain ⟨hz, hdat⟩ := wh_get _ _ HOk.out
          obtain ⟨Z, hZ⟩ : ∃ Z, DP.getD (bootD Dx [] []) [102] = Z := ⟨_, rfl⟩
          rw [hZ] at CG hz hdat
          obtain ⟨E9, ⟨np, nk, nd, nm⟩, ⟨s1, s2, s3⟩, e9⟩ := Z
          simp only at hz hdat
          subst hz
          obtain ⟨X1, hX1, _⟩ := txt_of np
          obtain ⟨X2, hX2, hX2d⟩ := txt_of nd
          unfold ndVal stampVal at CG
          simp only at CG
          rw [hX1, hX2] at CG
          have hcmp : (X2.toList == O.toList) = true ∨ ((X2.toList == O.toList) = false ∧ (X2.toList == V.toList) = true) := by
            rw [Lib.toList_data, Lib.toList_data, Lib.toList_data, hX2d]
            by_cases hq : nd = O.data.toList
            · exact .inl (by rw [hq]; simp)
            · refine .inr ⟨by simpa using hq, ?_⟩
              rcases hdat with h | h
              · exact absurd h hq
              · rw [h]; simp
          clear hb hX1 hX2 hX2d hdat
          rcases hcmp with hc1 | ⟨hc1, hc2⟩
          all_goals
            repeat (first | (go_at_call 28; fail) | go_skip | go_guarded | go_step | go_upon)
            refine CG.out.mono ?_
            rintro r w9 ⟨rfl, S9, h9, _, _⟩
            simp only []
            have HB9 := Lib.hid h9.bel
            clear h9
            repeat (first | go_skip | go_guarded | go_step | go_upon)
            go_ret
            exact ⟨rfl, ((((HB9.out.alloc HB9.out.size _).alloc (by simp; have := HB9.out.size; omega) _)))⟩
      · have hz1 : (eA == 0) = false := by simpa using z1
        obtain ⟨Dx, hDx⟩ : ∃ D, DA = D := ⟨_, rfl⟩
        have HOk := Lib.hid (H1.out z1)
        rw [hDx] at HOk D5
        have HDx := D5
        clear z1 hDx H2 H3 H4 H1
        have CB := Lib.hid HDx.out.boot0
        repeat (first | (go_at_call 17; fail) | go_skip | go_guarded | go_step | go_upon)
        refine CB.out.mono ?_
        rintro r wb ⟨rfl, Sb, hb, _, _⟩
        simp only []
        have CG := Lib.hid (hb.get HE.out (by omega) [102] (by show (1 : Nat) ≤ maxLen; unfold maxLen; omega))
        have HBb := Lib.hid hb.bel
        obtain ⟨hz, hdat⟩ := wh_get _ _ HOk.out
        obtain ⟨Z, hZ⟩ : ∃ Z, DP.getD (bootD Dx [] []) [102] = Z := ⟨_, rfl⟩
        rw [hZ] at CG hz hdat
        obtain ⟨E9, ⟨np, nk, nd, nm⟩, ⟨s1, s2, s3⟩, e9⟩ := Z
        simp only at hz hdat
        subst hz
        obtain ⟨X1, hX1, _⟩ := txt_of np
        obtain ⟨X2, hX2, hX2d⟩ := txt_of nd
        unfold ndVal stampVal at CG
        simp only at CG
        rw [hX1, hX2] at CG
        have hcmp : (X2.toList == O.toList) = true ∨ ((X2.toList == O.toList) = false ∧ (X2.toList == V.toList) = true) := by
          rw [Lib.toList_data, Lib.toList_data, Lib.toList_data, hX2d]
          by_cases hq : nd = O.data.toList
          · exact .inl (by rw [hq]; simp)
          · refine .inr ⟨by simpa using hq, ?_⟩
            rcases hdat with h | h
            · exact absurd h hq
            · rw [h]; simp
        clear hb hX1 hX2 hX2d hdat
        rcases hcmp with hc1 | ⟨hc1, hc2⟩
        all_goals
          repeat (first | (go_at_call 28; fail) | go_skip | go_guarded | go_step | go_upon)
          refine CG.out.mono ?_
          rintro r w9 ⟨rfl, S9, h9, _, _⟩
          simp only []
          have HB9 := Lib.hid h9.bel
          clear h9
          repeat (first | go_skip | go_guarded | go_step | go_upon)
          go_ret
          exact ⟨rfl, ((((HB9.out.alloc HB9.out.size _).alloc (by simp; have := HB9.out.size; omega) _)))⟩
    · have hVz : (65536 : Int) < (V.size : Int) := by omega
      clear hO hV
      repeat (first | go_skip | go_guarded | go_step | go_upon)
      go_ret
      exact ⟨rfl, B1.out⟩
  · have hOz : (65536 : Int) < (O.size : Int) := by omega
    clear hO
    repeat (first | go_skip | go_guarded | go_step | go_upon)
    go_ret
    exact ⟨rfl, B1.out⟩
end DG
end Go.Proofs.YtjkikkpbeceeeaaGreatDoor
end

section
/- Layer 7: the walk of DiskStamps. -/
namespace Go.Proofs.YtjkikkpbeceeeaaGreatDoor
open Go.RowKit Go.Lib Go.BigFrame
namespace DG
open OM TP TM DP DM TG TR FP

theorem own_kept9 {S S' : Nat → Prop} {P B : Nat} {W W' : World} {v : Value} {n size : Nat} {t : TypeId} {xs : List Value} (h : W.ownsRow B t size v n xs) (hf : ∀ g, v.ownBlock = some g → ¬ S g ∧ g ≠ P) (hs : ∀ k, S' k → S k ∨ W.heap.size ≤ k) (ho : Out (fun k => S k ∨ k = P) W W') :
    W'.ownsRow B t size v n xs ∧ ∀ g, v.ownBlock = some g → ¬ S' g ∧ g ≠ P := by
  refine ⟨ho.owns h (fun g hg hh => ?_), fun g hg => ⟨fun hh => ?_, (hf g hg).2⟩⟩
  · obtain ⟨h2, h3⟩ := hf g hg
    rcases hh with hh | hh
    · exact h2 hh
    · exact h3 hh
  · rcases hs g hh with h4 | h4
    · exact (hf g hg).1 h4
    · have := (h.lt g hg).2
      omega
theorem blk_kept9 {S S' : Nat → Prop} {P b : Nat} {W W' : World} {o : Obj} (h : W.heap[b]? = some o) (hf : ¬ S b ∧ b ≠ P) (hs : ∀ k, S' k → S k ∨ W.heap.size ≤ k) (ho : Out (fun k => S k ∨ k = P) W W') : W'.heap[b]? = some o ∧ (¬ S' b ∧ b ≠ P) := by
  have hb := (Array.getElem?_eq_some_iff.1 h).1
  refine ⟨ho.row h (fun hh => hh.elim hf.1 hf.2), fun hh => ?_, hf.2⟩
  rcases hs b hh with h4 | h4
  · exact hf.1 h4
  · omega
/-- The list of what was read, beside the disk. -/
def Lst (W : World) (B : Nat) (S : Nat → Prop) (P : Nat) (v : Value) (l : List Sn) : Prop :=
  W.ownsRow B 76 7 v l.length (seensC l) ∧ ∀ g, v.ownBlock = some g → ¬ S g ∧ g ≠ P
structure StI (w1 W : World) (P k : Nat) (S : Nat → Prop) (D : Dk) (v : Value) (l : List Sn) (j : Nat) : Prop where
  ds : DS w1 W S P j D
  lst : Lst W w1.heap.size S P v l
  seen : ∀ x ∈ l, Seen D x.1 x.2
  tm : Tm D
  len : l.length ≤ k
theorem StI.aft {w1 W W' : World} {P k j j' : Nat} {S : Nat → Prop} {D D' : Dk} {v : Value} {l : List Sn} (h : StI w1 W P k S D v l j) (hf : From D.clock D D') {S' : Nat → Prop} (hd : DS w1 W' S' P j' D') (hs : ∀ k, S' k → S k ∨ W.heap.size ≤ k) (ho : Out (fun k => S k ∨ k = P) W W') : StI w1 W' P k S' D' v l j' :=
  ⟨hd, own_kept9 h.lst.1 h.lst.2 hs ho, fun x hx => (h.seen x hx).from hf, hf.tm h.tm, h.len⟩
theorem StI.below {w1 W W' : World} {P k j : Nat} {S : Nat → Prop} {D : Dk} {v : Value} {l : List Sn} (h : StI w1 W P k S D v l j) (hb : Below W.heap.size W W') : StI w1 W' P k S D v l j :=
  ⟨h.ds.below hb, ⟨owns_below h.lst.1 hb, h.lst.2⟩, h.seen, h.tm, h.len⟩
theorem StI.next {w1 W : World} {P k : Nat} {S : Nat → Prop} {D : Dk} {v : Value} {l : List Sn} (h : StI w1 W P k S D v l (2 * k + 1 + 1)) : StI w1 W P (k + 1) S D v l (2 * (k + 1)) :=
  ⟨h.ds, h.lst, h.seen, h.tm, by have := h.len; omega⟩
theorem StI.next2 {w1 W : World} {P k : Nat} {S : Nat → Prop} {D : Dk} {v : Value} {l : List Sn} (h : StI w1 W P (k + 1) S D v l (2 * k + 1 + 1)) : StI w1 W P (k + 1) S D v l (2 * (k + 1)) :=
  ⟨h.ds, h.lst, h.seen, h.tm, h.len⟩
theorem StI.boot {w1 W : World} {P k j : Nat} {S : Nat → Prop} {D : Dk} {v : Value} {l : List Sn} (h : StI w1 W P k S D v l j) :
    Calls Tryz.prog 17 #[.pointer (some ⟨P, 0, none⟩), .slice none 0 0, .slice none 0 0] W fun r W' => r = .returned (.tuple #[]) ∧ ∃ S4, StI w1 W' P k S4 (bootD D [] []) v l j := by
  refine h.ds.boot0.mono ?_
  rintro r W' ⟨rfl, S4, h4, hs4, ho4⟩
  exact ⟨rfl, S4, h.aft (boot_from _ D [] []) h4 hs4 ho4⟩
/-- One more has been seen, and put into the list. -/
theorem StI.more {w1 W W' : World} {P k j : Nat} {S : Nat → Prop} {D : Dk} {v v' : Value} {l : List Sn} {x : Sn} (h : StI w1 W P k S D v l j) (hx : Seen D x.1 x.2) (hg : W.grownBy W' v.ownBlock) (ho : W'.ownsRow w1.heap.size 76 7 v' (l.length + 1) (seensC l ++ seenC x)) (hb : v'.ownBlock = v.ownBlock ∨ v'.ownBlock = some W.heap.size) : StI w1 W' P (k + 1) S D v' (l ++ [x]) j := by
  have u : Out (fun j => v.ownBlock = some j) W W' := (Out.refl _ W).grown hg (fun j hj _ => hj)
  refine ⟨h.ds.out u (fun k hk => ⟨(h.lst.2 k hk).1, (h.lst.2 k hk).2, (h.lst.1.lt k hk).1⟩), ⟨?_, fun g hg2 => ?_⟩, fun y hy => ?_, h.tm, ?_⟩
  · rw [List.length_append, List.length_singleton, seens_snoc]
    exact ho
  · rcases hb with h1 | h1
    · exact h.lst.2 g (h1 ▸ hg2)
    · rw [h1] at hg2
      injection hg2 with hg2
      obtain ⟨h2, h3⟩ := h.ds.lt
      exact ⟨fun hh => by have := h3 g hh; omega, by omega⟩
  · rcases List.mem_append.1 hy with hy | hy
    · exact h.seen y hy
    · rw [List.mem_singleton.1 hy]
      exact hx
  · rw [List.length_append, List.length_singleton]
    have := h.len
    omega
set_option maxRecDepth 100000 in
set_option maxHeartbeats 12800000 in
theorem stamps_any (a0 a1 : Option Addr) (c0 c1 : Nat) (t : List Nd) (cs : List Cal) (fs : List Fate) (af : Option Addr) (cf : Nat) (es : List Edit) (vs : List Ev) (au : Option Addr) (cu : Nat) (w : World) (he : NF.Env w) (hw : TW.Wide w a0 c0 t) (hc : LayC w a1 cs) (hlc : LongC cs) (hcap : cs.length ≤ c1) (hmax : cs.length ≤ maxLen)
    (hf : ∀ ad, af = some ad → (0 < fs.length → ad.block < w.heap.size) ∧ ∀ (j : Nat) (u : Value), (fatesC fs)[j]? = some u → w.cell? (ad.add j) = some u) (hno : af = none → fs.length = 0 ∧ cf = 0) (hl : fs.length ≤ 1048576) (hu : EdArg w au cu es vs) (hel : es.length ≤ 1048576) (hp : ∀ e ∈ es, e.path.length ≤ maxLen) :
    Calls Tryz.prog 7 #[.slice a0 t.length c0, .agg #[.slice af fs.length cf, .slice au es.length cu], .slice a1 cs.length c1] w fun r w' => r = .returned (.bool true) ∧ Below w.heap.size w w' := by
  have HE := Lib.hid he
  have HW := Lib.hid hw
  have HC := Lib.hid hc
  have HL := Lib.hid hlc
  have HF := Lib.hid hf
  have HNo := Lib.hid hno
  have HFl := Lib.hid hl
  have HU := Lib.hid hu
  have HPa := Lib.hid hp
  have hucap := hu.cap
  obtain ⟨n, hn⟩ : ∃ n, t.length = n := ⟨_, rfl⟩
  obtain ⟨m, hm⟩ : ∃ m, cs.length = m := ⟨_, rfl⟩
  obtain ⟨nf, hnf⟩ : ∃ n, fs.length = n := ⟨_, rfl⟩
  obtain ⟨nu, hnu⟩ : ∃ n, es.length = n := ⟨_, rfl⟩
  have HN := Lib.hid hn
  have HM := Lib.hid hm
  have HNf := Lib.hid hnf
  have HNu := Lib.hid hnu
  have HEl := Lib.hid hel
  unfold maxLen at hmax
  rw [hn, hm, hnf, hnu]
  rw [hm] at hcap hmax
  rw [hnu] at hel hucap
  have hmz : (m : Int) ≤ 9223372036854775807 := by omega
  have b0 : Below w.heap.size w (w.alloc (.cells #[.slice af nf cf, .slice au nu cu] 26)) := (Below.refl _ _).alloc (Nat.le_refl _) _
  have hr0 := heap_alloc_new w (.cells #[.slice af nf cf, .slice au nu cu] 26)
  obtain ⟨w0, hw0⟩ : ∃ W, w.alloc (.cells #[.slice af nf cf, .slice au nu cu] 26) = W := ⟨_, rfl⟩
  rw [hw0] at b0 hr0
  have CA := Lib.hid (awake_any w0 (he.below b0))
  have B0 := Lib.hid b0
  have HR0 := Lib.hid hr0
  have HZ0 : Hid (w.heap.size < w0.heap.size) := Lib.hid (Array.getElem?_eq_some_iff.1 hr0).1
  clear he hw hc hlc hf hno hl hu hp b0 hr0 hn hm hnf hnu
  go_enter Tryz.func7, Tryz.ntmps7
  repeat (first | (go_at_call 9; fail) | go_skip | go_guarded | go_step | go_upon)
  try rw [hw0]
  clear hw0
  refine CA.out.mono ?_
  rintro r w1 ⟨rfl, hb1⟩
  simp only []
  have B1 : Hid (Below w.heap.size w w1) := Lib.hid (Below.trans B0.out (hb1.mono B0.out.size))
  have HZ1 : Hid (w.heap.size < w1.heap.size) := Lib.hid (Nat.lt_of_lt_of_le HZ0.out hb1.size)
  have HR1 : Hid (w1.heap[w.heap.size]? = some (.cells #[.slice af nf cf, .slice au nu cu] 26 (0, 0))) := Lib.hid ((hb1.block _ HZ0.out).trans HR0.out)
  clear hb1
  by_cases ht : treeB t = true
  · have CN : Hid (Calls Tryz.prog 10 #[.slice a0 n c0] w1 fun r w' => ∃ S P, r = .returned (.tuple #[.pointer (some ⟨P, 0, none⟩), .int .i64 0]) ∧ DS w1 w' S P 0 (newD t)) := Lib.hid (by
      have := new_ds (HE.out.below B1.out) (HW.out.below B1.out) ht
      rw [HN.out] at this
      exact this)
    have HTr := Lib.hid ht
    clear ht
    repeat (first | (go_at_call 10; fail) | go_skip | go_guarded | go_step | go_upon)
    refine CN.out.mono ?_
    rintro r w2 ⟨S, P, rfl, h2⟩
    simp only []
    have D2 := Lib.hid h2
    have HE1 := Lib.hid (HE.out.below B1.out)
    have hr2 := (h2.bel.block _ HZ1.out).trans HR1.out
    obtain ⟨y0, y1, yf⟩ := row2 hr2
    clear h2 hr2
    by_cases hu4 : nu ≤ 4
    · have hu4z : ¬ ((4 : Int) < (nu : Int)) := by omega
      have CB : Hid (Calls Tryz.prog 17 #[.pointer (some ⟨P, 0, none⟩), .slice af nf cf, .slice au nu cu] w2 fun r W' => r = .returned (.tuple #[]) ∧ Aft w1 w2 S P 0 (bootD (newD t) fs es) W') := Lib.hid (by
        have := D2.out.bootE fs af cf (fun ad ha => ⟨fun h0 => Nat.lt_of_lt_of_le ((HF.out ad ha).1 h0) B1.out.size, fun j u hj => ((by
          have hab : (ad.add j).block = ad.block := by unfold Addr.add; split <;> rfl
          have h0 : 0 < fs.length := by have := (List.getElem?_eq_some_iff.1 hj).1; rw [fates_len] at this; omega
          exact (B1.out.cell (p := ad.add j) (by rw [hab]; exact (HF.out ad ha).1 h0)).trans ((HF.out ad ha).2 j u hj)))⟩) HNo.out HFl.out es vs au cu (HU.out.below B1.out) HEl.out HPa.out
        rw [HNf.out, HNu.out] at this
        exact this)
      repeat (first | (go_at_call 17; fail) | go_skip | go_guarded | go_step | go_upon)
      refine CB.out.mono ?_
      rintro r w3 ⟨rfl, SB, hB, hsB, hoB⟩
      simp only []
      have I0 : Hid (StI w1 w3 P 0 SB (bootD (newD t) fs es) (.slice none 0 0) [] 0) := Lib.hid ⟨hB, ⟨World.ownsRow_nil _ _ _ _, (fun g hg => by cases hg)⟩, (fun x hx => by cases hx), (boot_from (newD t).clock (newD t) fs es).tm (new_tm t), Nat.le_refl _⟩
      clear hB hsB hoB y0 y1 yf
      repeat (first | go_skip | go_guarded | go_step | go_upon)
      go_loopw [9, 46] (fun s9 s46 wr => ∃ (k : Nat) (S' : Nat → Prop) (DQ : Dk) (l : List Sn), s46 = .int .i64 k ∧ k ≤ m ∧ k ≤ 40 ∧ StI w1 wr P k S' DQ s9 l (2 * k)) (fun _ s46 _ => m - (Go.RowKit.intOf s46).toNat)
      case atStart => exact ⟨0, SB, _, [], rfl, Nat.zero_le _, Nat.zero_le _, I0.out⟩
      case round =>
        obtain ⟨k, SQ, DQ, l, rfl, hk, hk40, hst⟩ := hrel
        have HSt := Lib.hid hst
        obtain ⟨al, cl, hvl, _⟩ := owns_view hst.lst.1
        obtain ⟨nl, hnl⟩ : ∃ z, l.length = z := ⟨_, rfl⟩
        rw [hnl] at hvl
        have HNl := Lib.hid hnl
        subst hvl
        clear hst hnl
        by_cases hlt : k < m
        · have hkz : (k : Int) < m := by omega
          obtain ⟨g, o, rfl, hg, hcell⟩ := HC.out (by rw [HM.out]; omega)
          obtain ⟨c, hcx⟩ : ∃ c, cs[k]? = some c := ⟨cs[k]'(by rw [HM.out]; exact hlt), List.getElem?_eq_getElem _⟩
          have HLp := Lib.hid (HL.out c (List.mem_of_getElem? hcx))
          obtain ⟨e0, e1, e2, e3, e4⟩ := hcell k c hcx
          have hgr1 : g < w1.heap.size := Nat.lt_of_lt_of_le hg B1.out.size
          have sC : ∀ j, wr.cell? ⟨g, j, none⟩ = w.cell? ⟨g, j, none⟩ := fun j => (HSt.out.ds.bel.cell (p := ⟨g, j, none⟩) hgr1).trans (B1.out.cell (p := ⟨g, j, none⟩) hg)
          rw [← sC] at e0 e1 e2 e3 e4
          have hgr : g < wr.heap.size := Nat.lt_of_lt_of_le hgr1 HSt.out.ds.bel.size
          obtain ⟨X, hX, hXd⟩ := txt_of c.path
          obtain ⟨Y, hY, _⟩ := txt_of c.dest
          obtain ⟨V, hV, _⟩ := txt_of c.data
          obtain ⟨wh, hwh⟩ : ∃ z, c.what = z := ⟨_, rfl⟩
          obtain ⟨md, hmd⟩ : ∃ z, c.mode = z := ⟨_, rfl⟩
          rw [hX] at e1
          rw [hY] at e2
          rw [hV] at e3
          rw [hwh] at e0
          rw [hmd] at e4
          have CK : Hid (Calls Tryz.prog 19 #[.pointer (some ⟨P, 0, none⟩), .agg #[.int .i64 wh, .string X, .string Y, .string V, .int .i64 md]] (wr.alloc (.cells #[.int .i64 wh, .string X, .string Y, .string V, .int .i64 md] 43)) fun r W' => ∃ (u : Value) (S2 : Nat → Prop), r = .returned u ∧ StI w1 W' P k S2 (askD DQ c).1 (.slice al nl cl) l (2 * k + 1) ∧ (W'.heap[wr.heap.size]? = some (.cells #[.int .i64 wh, .string X, .string Y, .string V, .int .i64 md] 43 (0, 0)) ∧ (¬ S2 wr.heap.size ∧ wr.heap.size ≠ P))) := Lib.hid (by
            have hda : StI w1 (wr.alloc (.cells #[.int .i64 wh, .string X, .string Y, .string V, .int .i64 md] 43)) P k SQ DQ (.slice al nl cl) l (2 * k) := HSt.out.below ((Below.refl _ _).alloc (Nat.le_refl _) _)
            have := ask_any hda.ds HE1.out (by omega) c HLp.out.1 HLp.out.2
            unfold calV at this
            rw [hwh, hX, hY, hV, hmd] at this
            refine this.mono ?_
            rintro r W' ⟨v, rfl, ho, S2, h2, hs2, ho2, _⟩
            refine ⟨_, S2, rfl, hda.aft (ask_from DQ c) h2 hs2 ho2, blk_kept9 (S := SQ) (heap_alloc_new wr _) ?_ hs2 ho2⟩
            obtain ⟨hl1, hl2⟩ := HSt.out.ds.lt
            exact ⟨fun hh => by have := hl2 _ hh; omega, by omega⟩)
          have HX := Lib.hid hX
          have HXd := Lib.hid hXd
          clear hcell hcx sC hXd hX hY hV hwh hmd
          by_cases h40 : k = 40
          · have hk4 : ((k : Int) == 40) = true := by simp [h40]
            have HDx : Hid (DS w1 (wr.alloc (.cells #[.int .i64 wh, .string X, .string Y, .string V, .int .i64 md] 43)) SQ P (2 * k) DQ) := Lib.hid (HSt.out.ds.below ((Below.refl _ _).alloc (Nat.le_refl _) _))
            clear h40 CK
            repeat (first | go_skip | go_guarded | go_step | go_upon)
            go_ret
            exact ⟨rfl, Below.trans B1.out (HDx.out.bel.mono B1.out.size)⟩
          · have hk4 : ((k : Int) == 40) = false := by simp; omega
            have hk39 : k < 40 := by omega
            clear h40
            repeat (first | (go_at_call 19; fail) | go_skip | go_guarded | go_step | go_upon)
            refine CK.out.mono ?_
            rintro r w3 ⟨u, S2, rfl, h2, hbx⟩
            simp only []
            obtain ⟨DQ2, hDQ2⟩ : ∃ z, (askD DQ c).1 = z := ⟨_, rfl⟩
            rw [hDQ2] at h2
            have H2 := Lib.hid h2
            have BX3 := Lib.hid hbx
            obtain ⟨x0, x1, x2, x3, x4, xf⟩ := row5c hbx.1
            clear h2 hbx hDQ2
            obtain ⟨DQ3, hDQ3⟩ : ∃ z, (DP.getD DQ2 c.path).1 = z := ⟨_, rfl⟩
            obtain ⟨Zg, hZg⟩ : ∃ z, (DP.getD DQ2 c.path).2 = z := ⟨_, rfl⟩
            have HDQ3 := Lib.hid hDQ3
            have HZg := Lib.hid hZg
            obtain ⟨⟨gp, gk, gd, gm⟩, ⟨st1, st2, st3⟩, ge⟩ := Zg
            obtain ⟨G1, hG1, hG1d⟩ := txt_of gp
            obtain ⟨G2, hG2, _⟩ := txt_of gd
            have HG1 := Lib.hid hG1
            have HG2 := Lib.hid hG2
            have HG1d := Lib.hid hG1d
            have CG1 : Hid (Calls Tryz.prog 28 #[.pointer (some ⟨P, 0, none⟩), .string X] w3 fun r W' => r = .returned (.tuple #[.agg #[.string G1, .int .i64 gk, .string G2, .int .i64 gm], .agg #[.int .i64 st1, .int .i64 st2, .int .i64 st3], .int .i64 ge]) ∧ ∃ S3, StI w1 W' P k S3 DQ3 (.slice al nl cl) l (2 * k + 1 + 1) ∧ (W'.heap[wr.heap.size]? = some (.cells #[.int .i64 wh, .string X, .string Y, .string V, .int .i64 md] 43 (0, 0)) ∧ (¬ S3 wr.heap.size ∧ wr.heap.size ≠ P))) := Lib.hid (by
              have := H2.out.ds.get HE1.out (by omega) c.path HLp.out.1
              rw [HZg.out, HDQ3.out] at this
              unfold ndVal stampVal at this
              simp only at this
              rw [HG1.out, HG2.out, HX.out] at this
              refine this.mono ?_
              rintro r W' ⟨rfl, S3, h3, hs3, ho3⟩
              have hfr := get_from DQ2 c.path
              rw [HDQ3.out] at hfr
              exact ⟨rfl, S3, H2.out.aft hfr h3 hs3 ho3, blk_kept9 BX3.out.1 BX3.out.2 hs3 ho3⟩)
            clear hDQ3 hZg hG1 hG2 hG1d
            repeat (first | (go_at_call 28; fail) | go_skip | go_guarded | go_step | go_upon)
            refine CG1.out.mono ?_
            rintro r w6 ⟨rfl, S3, h6, hb6⟩
            simp only []
            have rA := heap_alloc_new w6 (.cells #[.string G1, .int .i64 gk, .string G2, .int .i64 gm] 45)
            have rB := heap_alloc_new (w6.alloc (.cells #[.string G1, .int .i64 gk, .string G2, .int .i64 gm] 45)) (.cells #[.int .i64 st1, .int .i64 st2, .int .i64 st3] 47)
            have bA : Below w6.heap.size w6 ((w6.alloc (.cells #[.string G1, .int .i64 gk, .string G2, .int .i64 gm] 45)).alloc (.cells #[.int .i64 st1, .int .i64 st2, .int .i64 st3] 47)) := ((Below.refl _ _).alloc (Nat.le_refl _) _).alloc (by simp) _
            have bA2 : Below (w6.heap.size + 1) (w6.alloc (.cells #[.string G1, .int .i64 gk, .string G2, .int .i64 gm] 45)) ((w6.alloc (.cells #[.string G1, .int .i64 gk, .string G2, .int .i64 gm] 45)).alloc (.cells #[.int .i64 st1, .int .i64 st2, .int .i64 st3] 47)) := (Below.refl _ _).alloc (by simp) _
            have RA := Lib.hid ((bA2.block _ (by omega)).trans rA)
            rw [World.size_alloc] at rB
            have RB := Lib.hid rB
            have RX := Lib.hid ((bA.block _ (Array.getElem?_eq_some_iff.1 hb6.1).1).trans hb6.1)
            have H7 := Lib.hid (h6.below bA)
            obtain ⟨x0, x1, x2, x3, x4, xf⟩ := row5c hb6.1
            have bx6 : wr.heap.size < w6.heap.size := (Array.getElem?_eq_some_iff.1 hb6.1).1
            clear h6 hb6 rA rB bA bA2
            obtain ⟨WT, hWT⟩ : ∃ z, ((w6.alloc (.cells #[.string G1, .int .i64 gk, .string G2, .int .i64 gm] 45)).alloc (.cells #[.int .i64 st1, .int .i64 st2, .int .i64 st3] 47)) = z := ⟨_, rfl⟩
            rw [hWT] at RA RB RX H7
            have HW7 := Lib.hid hWT
            have HT := H7
            clear hWT
            by_cases hge : ge = 0
            · by_cases hpe : c.path = []
              · have hXe : X.toList.isEmpty = true := by rw [Lib.toList_data, HXd.out, hpe]; rfl
                subst hge
                clear hpe
                cases hoff : DQ3.off with
                | false =>
                  have CO : Hid (Calls Tryz.prog 13 #[.pointer (some ⟨P, 0, none⟩)] WT fun r w' => r = .returned (.bool true) ∧ WT = w') := Lib.hid (by
                    have := HT.out.ds.on
                    rw [hoff] at this
                    exact this)
                  clear hoff
                  repeat (first | (go_at_call 13; fail) | go_skip | go_guarded | go_step | go_upon)
                  rw [HW7.out]
                  refine CO.out.mono ?_
                  rintro r wO ⟨rfl, rfl⟩
                  simp only []
                  repeat (first | go_skip | go_guarded | go_step | go_upon)
                  exact ⟨⟨k + 1, S3, DQ3, l, by go_num, by omega, by omega, HT.out.next⟩, by simp [Go.RowKit.intOf]; omega⟩
                | true =>
                  have CO : Hid (Calls Tryz.prog 13 #[.pointer (some ⟨P, 0, none⟩)] WT fun r w' => r = .returned (.bool false) ∧ WT = w') := Lib.hid (by
                    have := HT.out.ds.on
                    rw [hoff] at this
                    exact this)
                  have CB := Lib.hid HT.out.boot
                  clear hoff
                  repeat (first | (go_at_call 13; fail) | go_skip | go_guarded | go_step | go_upon)
                  rw [HW7.out]
                  refine CO.out.mono ?_
                  rintro r wO ⟨rfl, rfl⟩
                  simp only []
                  repeat (first | (go_at_call 17; fail) | go_skip | go_guarded | go_step | go_upon)
                  refine CB.out.mono ?_
                  rintro r wB ⟨rfl, S4, hB4⟩
                  simp only []
                  have HB4 := Lib.hid hB4
                  clear hB4
                  repeat (first | go_skip | go_guarded | go_step | go_upon)
                  exact ⟨⟨k + 1, S4, _, l, by go_num, by omega, by omega, HB4.out.next⟩, by simp [Go.RowKit.intOf]; omega⟩
              · have hXe : X.toList.isEmpty = false := by rw [Lib.toList_data, HXd.out]; simpa using hpe
                subst hge
                have HG0 := Lib.hid (get_zero (D := DQ2) (p := c.path) (by rw [HZg.out]))
                rw [HDQ3.out, HZg.out] at HG0
                have HPe := Lib.hid hpe
                clear hpe
                repeat (first | go_skip | go_guarded | go_step | go_upon)
                rw [HW7.out]
                have hnl40 : nl ≤ 40 := by
                  have := HT.out.len
                  rw [HNl.out] at this
                  omega
                go_loopw [73] (fun s73 wq => ∃ i : Nat, s73 = .int .i64 i ∧ i ≤ nl ∧ Below WT.heap.size WT wq) (fun s73 _ => nl - (Go.RowKit.intOf s73).toNat)
                case atStart => exact ⟨0, rfl, Nat.zero_le _, Below.refl _ _⟩
                case round =>
                  obtain ⟨i, rfl, hi, hbq⟩ := hrel
                  have HBq := Lib.hid hbq
                  have HTq := Lib.hid (HT.out.below hbq)
                  have rA := (hbq.block _ (Array.getElem?_eq_some_iff.1 RA.out).1).trans RA.out
                  have rB := (hbq.block _ (Array.getElem?_eq_some_iff.1 RB.out).1).trans RB.out
                  have bxA := (Array.getElem?_eq_some_iff.1 rA).1
                  have bxB := (Array.getElem?_eq_some_iff.1 rB).1
                  obtain ⟨u0, u1, u2, u3, uf⟩ := row4 rA
                  obtain ⟨z0, z1, z2, zf⟩ := row3 rB
                  clear hbq rA rB
                  by_cases hil : i < nl
                  · have hiz : (i : Int) < nl := by omega
                    obtain ⟨x, hx⟩ : ∃ x, l[i]? = some x := ⟨l[i]'(by rw [HNl.out]; exact hil), List.getElem?_eq_getElem _⟩
                    obtain ⟨ao, cc, ev, hcl⟩ := owns_view HTq.out.lst.1
                    obtain ⟨g2, rfl, hg2, _, hcl⟩ := hcl (by rw [HNl.out]; omega)
                    injection ev with ev _ _
                    subst ev
                    have hcc : ∀ j, j < 7 → wr.cell? ⟨g2, i * 7 + j, none⟩ = (seenC x)[j]? := fun j hj => (hcl (i * 7 + j) (by rw [HNl.out]; omega)).trans (seens_at hx j hj)
                    have f0 : wr.cell? ⟨g2, i * 7, none⟩ = some (txt x.1.path) := hcc 0 (by omega)
                    have f1 : wr.cell? ⟨g2, i * 7 + 1, none⟩ = some (.int .i64 x.1.kind) := hcc 1 (by omega)
                    have f2 : wr.cell? ⟨g2, i * 7 + 2, none⟩ = some (txt x.1.data) := hcc 2 (by omega)
                    have f3 : wr.cell? ⟨g2, i * 7 + 3, none⟩ = some (.int .i64 x.1.mode) := hcc 3 (by omega)
                    have f4 : wr.cell? ⟨g2, i * 7 + 4, none⟩ = some (.int .i64 x.2.ino) := hcc 4 (by omega)
                    have f5 : wr.cell? ⟨g2, i * 7 + 5, none⟩ = some (.int .i64 x.2.size) := hcc 5 (by omega)
                    have f6 : wr.cell? ⟨g2, i * 7 + 6, none⟩ = some (.int .i64 x.2.time) := hcc 6 (by omega)
                    have HSx := Lib.hid (HT.out.seen x (List.mem_of_getElem? hx))
                    obtain ⟨⟨xp, xk, xd, xm⟩, ⟨xi, xs, xt⟩⟩ := x
                    obtain ⟨Q1, hQ1, hQ1d⟩ := txt_of xp
                    obtain ⟨Q2, hQ2, _⟩ := txt_of xd
                    simp only at f0 f1 f2 f3 f4 f5 f6
                    rw [hQ1] at f0
                    rw [hQ2] at f2
                    clear hcl hcc hx
                    by_cases hpq : xp = gp
                    · have hQG : Q1 = G1 := by
                        have h1 := HG1.out
                        rw [← hpq, hQ1] at h1
                        injection h1
                      subst hQG
                      have hTT : (Q1.toList == Q1.toList) = true := by simp
                      have q2' := eq_st2 ⟨xi, xs, xt⟩ ⟨st1, st2, st3⟩
                      simp only at q2'
                      by_cases hse : xi = st1 ∧ xs = st2 ∧ xt = st3
                      · have hsame : (⟨xp, xk, xd, xm⟩ : Nd) = ⟨gp, gk, gd, gm⟩ := by
                          obtain ⟨h1, h2⟩ := HG0.out
                          obtain ⟨e1, e2, e3⟩ := hse
                          injection h2 with h2 h3
                          injection h3 with h3 _
                          obtain ⟨adr, y, hy⟩ := HT.out.ds.disk
                          have hgp : gp = c.path := by
                            have := (got_seen hy.fit HT.out.tm HPe.out h1).2
                            rw [← h2] at this
                            exact this
                          rw [h2]
                          refine seen_same hy.fit HPe.out h1 HSx.out (hpq.trans hgp) ?_
                          rw [← h3, e1, e2, e3]
                        injection hsame with _ hk2 hd2 hm2
                        have hQG2 : Q2 = G2 := by
                          have h1 := HG2.out
                          rw [← hd2, hQ2] at h1
                          injection h1
                        have q2 : ∀ W : World, (Op.equalIn 10000 47 (.agg #[.int .i64 xi, .int .i64 xs, .int .i64 xt]) (.agg #[.int .i64 st1, .int .i64 st2, .int .i64 st3])).run Tryz.prog W = .ok true W := fun W => by
                          have := q2' W
                          rw [decide_eq_true hse] at this
                          exact this
                        have q1 : ∀ W : World, (Op.equalIn 10000 45 (.agg #[.string Q1, .int .i64 xk, .string Q2, .int .i64 xm]) (.agg #[.string Q1, .int .i64 gk, .string G2, .int .i64 gm])).run Tryz.prog W = .ok true W := fun W => by
                          have := TR.eq_nd ⟨xp, xk, xd, xm⟩ ⟨gp, gk, gd, gm⟩ W
                          rw [decide_eq_true (by rw [hpq, hk2, hd2, hm2])] at this
                          unfold ndVal at this
                          simp only at this
                          rw [hQ1, hQ2, HG1.out, HG2.out] at this
                          exact this
                        clear q2' hse hk2 hd2 hm2 hQG2 hpq hQ1 hQ2 hQ1d
                        repeat (first | go_skip | go_guarded | go_step | go_upon)
                        exact ⟨⟨i + 1, by go_num, by omega, HBq.out.alloc HBq.out.size _⟩, by simp [Go.RowKit.intOf]; omega⟩
                      · have q2 : ∀ W : World, (Op.equalIn 10000 47 (.agg #[.int .i64 xi, .int .i64 xs, .int .i64 xt]) (.agg #[.int .i64 st1, .int .i64 st2, .int .i64 st3])).run Tryz.prog W = .ok false W := fun W => by
                          have := q2' W
                          rw [decide_eq_false hse] at this
                          exact this
                        clear q2' hse hpq hQ1 hQ2 hQ1d
                        repeat (first | go_skip | go_guarded | go_step | go_upon)
                        exact ⟨⟨i + 1, by go_num, by omega, HBq.out.alloc HBq.out.size _⟩, by simp [Go.RowKit.intOf]; omega⟩
                    · have hTT : (Q1.toList == G1.toList) = false := by
                        rw [Lib.toList_data, Lib.toList_data, hQ1d, HG1d.out]
                        simpa using hpq
                      clear hpq hQ1 hQ2 hQ1d
                      repeat (first | go_skip | go_guarded | go_step | go_upon)
                      exact ⟨⟨i + 1, by go_num, by omega, HBq.out.alloc HBq.out.size _⟩, by simp [Go.RowKit.intOf]; omega⟩
                  · have hiz : ¬ (i : Int) < nl := by omega
                    clear hil
                    have HOq : Hid (wr.ownsRow w1.heap.size 76 7 (.slice al nl cl) nl (seensC l)) := Lib.hid (by
                      have := HTq.out.lst.1
                      rw [HNl.out] at this
                      exact this)
                    have HNk : Hid (nl ≤ k) := Lib.hid (by have := HT.out.len; rw [HNl.out] at this; exact this)
                    have HSz : Hid (w1.heap.size ≤ wr.heap.size) := Lib.hid HTq.out.ds.bel.size
                    have HNew : Hid (Seen DQ3 ⟨gp, gk, gd, gm⟩ ⟨st1, st2, st3⟩) := Lib.hid (by
                      obtain ⟨h1, h2⟩ := HG0.out
                      injection h2 with h2 h3
                      injection h3 with h3 _
                      obtain ⟨adr, y, hy⟩ := HT.out.ds.disk
                      have := (got_seen hy.fit HT.out.tm HPe.out h1).1
                      rw [← h2, ← h3] at this
                      exact this)
                    obtain ⟨i0, hi0, hzz0, hzz1, hzz2⟩ := info_parts infoS
                    repeat (first
                      | (at_builtin; refine wpList_append_own_at _ rfl _ _ 74 rfl w1.heap.size 76 i0 (.agg #[.string ⟨#[]⟩, .int .i64 0, .string ⟨#[]⟩, .int .i64 0, .int .i64 0, .int .i64 0, .int .i64 0]) 7 72 Tryz.underlying74 hi0 hzz0 hzz1 hzz2 rfl (by decide) _ _ _ rfl (HOq.out.alloc _) ⟨wr.heap.size, 0, none⟩ 1 1 (seenC ⟨⟨gp, gk, gd, gm⟩, ⟨st1, st2, st3⟩⟩) rfl rfl (seven_new wr ⟨⟨gp, gk, gd, gm⟩, ⟨st1, st2, st3⟩⟩ (.string G1) (.string G2) HG1.out HG2.out 76) (seen_one _) (by have := HNk.out; unfold maxLen; omega) (by have := HNk.out; omega) (by have := HSz.out; simp; omega) ?_; intro v5 w5 hown5 hgrow5 hnil5 hblk5; have HT5 : Hid (StI w1 w5 P (k + 1) S3 DQ3 v5 (l ++ [(⟨⟨gp, gk, gd, gm⟩, ⟨st1, st2, st3⟩⟩ : Sn)]) (2 * k + 1 + 1)) := Lib.hid ((HTq.out.below (W' := wr.alloc (.cells #[.string G1, .int .i64 gk, .string G2, .int .i64 gm, .int .i64 st1, .int .i64 st2, .int .i64 st3] 76)) ((Below.refl _ _).alloc (Nat.le_refl _) _)).more (x := ⟨⟨gp, gk, gd, gm⟩, ⟨st1, st2, st3⟩⟩) HNew.out hgrow5 (by rw [HNl.out]; exact hown5) hblk5); clear hown5 hgrow5 hnil5 hblk5)
                      | go_skip | go_guarded | go_step | go_upon)
                    cases hoff : DQ3.off with
                    | false =>
                      have CO : Hid (Calls Tryz.prog 13 #[.pointer (some ⟨P, 0, none⟩)] w5 fun r w' => r = .returned (.bool true) ∧ w5 = w') := Lib.hid (by
                        have := HT5.out.ds.on
                        rw [hoff] at this
                        exact this)
                      clear hoff
                      repeat (first | (go_at_call 13; fail) | go_skip | go_guarded | go_step | go_upon)
                      refine CO.out.mono ?_
                      rintro r wO ⟨rfl, rfl⟩
                      simp only []
                      repeat (first | go_skip | go_guarded | go_step | go_upon)
                      exact ⟨⟨k + 1, S3, DQ3, l ++ [(⟨⟨gp, gk, gd, gm⟩, ⟨st1, st2, st3⟩⟩ : Sn)], by go_num, by omega, by omega, HT5.out.next2⟩, by simp [Go.RowKit.intOf]; omega⟩
                    | true =>
                      have CO : Hid (Calls Tryz.prog 13 #[.pointer (some ⟨P, 0, none⟩)] w5 fun r w' => r = .returned (.bool false) ∧ w5 = w') := Lib.hid (by
                        have := HT5.out.ds.on
                        rw [hoff] at this
                        exact this)
                      have CB := Lib.hid HT5.out.boot
                      clear hoff
                      repeat (first | (go_at_call 13; fail) | go_skip | go_guarded | go_step | go_upon)
                      refine CO.out.mono ?_
                      rintro r wO ⟨rfl, rfl⟩
                      simp only []
                      repeat (first | (go_at_call 17; fail) | go_skip | go_guarded | go_step | go_upon)
                      refine CB.out.mono ?_
                      rintro r wB ⟨rfl, S4, hB4⟩
                      simp only []
                      have HB4 := Lib.hid hB4
                      clear hB4
                      repeat (first | go_skip | go_guarded | go_step | go_upon)
                      exact ⟨⟨k + 1, S4, _, l ++ [(⟨⟨gp, gk, gd, gm⟩, ⟨st1, st2, st3⟩⟩ : Sn)], by go_num, by omega, by omega, HB4.out.next2⟩, by simp [Go.RowKit.intOf]; omega⟩
            · have hgeb : (ge == (0 : Int)) = false := by simpa using hge
              clear hge
              cases hoff : DQ3.off with
              | false =>
                have CO : Hid (Calls Tryz.prog 13 #[.pointer (some ⟨P, 0, none⟩)] WT fun r w' => r = .returned (.bool true) ∧ WT = w') := Lib.hid (by
                  have := HT.out.ds.on
                  rw [hoff] at this
                  exact this)
                clear hoff
                repeat (first | (go_at_call 13; fail) | go_skip | go_guarded | go_step | go_upon)
                rw [HW7.out]
                refine CO.out.mono ?_
                rintro r wO ⟨rfl, rfl⟩
                simp only []
                repeat (first | go_skip | go_guarded | go_step | go_upon)
                exact ⟨⟨k + 1, S3, DQ3, l, by go_num, by omega, by omega, HT.out.next⟩, by simp [Go.RowKit.intOf]; omega⟩
              | true =>
                have CO : Hid (Calls Tryz.prog 13 #[.pointer (some ⟨P, 0, none⟩)] WT fun r w' => r = .returned (.bool false) ∧ WT = w') := Lib.hid (by
                  have := HT.out.ds.on
                  rw [hoff] at this
                  exact this)
                have CB := Lib.hid HT.out.boot
                clear hoff
                repeat (first | (go_at_call 13; fail) | go_skip | go_guarded | go_step | go_upon)
                rw [HW7.out]
                refine CO.out.mono ?_
                rintro r wO ⟨rfl, rfl⟩
                simp only []
                repeat (first | (go_at_call 17; fail) | go_skip | go_guarded | go_step | go_upon)
                refine CB.out.mono ?_
                rintro r wB ⟨rfl, S4, hB4⟩
                simp only []
                have HB4 := Lib.hid hB4
                clear hB4
                repeat (first | go_skip | go_guarded | go_step | go_upon)
                exact ⟨⟨k + 1, S4, _, l, by go_num, by omega, by omega, HB4.out.next⟩, by simp [Go.RowKit.intOf]; omega⟩
        · have hkz : ¬ (k : Int) < m := by omega
          clear hlt
          repeat (first | go_skip | go_guarded | go_step | go_upon)
          go_ret
          exact ⟨rfl, Below.trans B1.out (HSt.out.ds.bel.mono B1.out.size)⟩
    · have hu4z : (4 : Int) < (nu : Int) := by omega
      repeat (first | go_skip | go_guarded | go_step | go_upon)
      go_ret
      exact ⟨rfl, Below.trans B1.out (D2.out.bel.mono B1.out.size)⟩
  · have CN : Hid (Calls Tryz.prog 10 #[.slice a0 n c0] w1 fun r w' => r = .returned (.tuple #[.pointer none, .int .i64 60]) ∧ Below w1.heap.size w1 w') := Lib.hid (by
      have := dnew_no a0 c0 t w1 (HE.out.below B1.out) (HW.out.below B1.out) (by simpa using ht)
      rw [HN.out] at this
      exact this)
    clear ht
    repeat (first | (go_at_call 10; fail) | go_skip | go_guarded | go_step | go_upon)
    refine CN.out.mono ?_
    rintro r w2 ⟨rfl, hb2⟩
    simp only []
    have B2 := Lib.hid (Below.trans B1.out (hb2.mono B1.out.size))
    clear hb2
    repeat (first | go_skip | go_guarded | go_step | go_upon)
    go_ret
    exact ⟨rfl, B2.out⟩
end DG
end Go.Proofs.YtjkikkpbeceeeaaGreatDoor
end

section
/- Layer 7: fates and edits out of the arguments (of bounded bulk). -/
namespace Go.Proofs.YtjkikkpbeceeeaaGreatDoor
open Go.ChangeShapes Go.WideShapes Go.ChangeAt Go.RowKit Go.Lib
namespace DA
open OM TP TM DP DM DG
section
open Go.Deep
variable {H : Type} {enc : TypeId × Value → H} {P : Program} {w : World} {base : Nat} {spare : Nat → Bool} {held : Bool}
/-- A list of structs of three one-cell fields: the cells of each. -/
theorem open_threes {t e : TypeId} {f0 f1 f2 : Field} {fuel : Nat} {cs : List Value} {x : DataW H × List MemPlace} (ht : P.underlying t = some (.slice e)) (he : P.underlying e = some (.struct #[f0, f1, f2]))
    (ce : P.cellsOf e = 3) (o0 : f0.offset = 0) (o1 : f1.offset = 1) (o2 : f2.offset = 2) (c0 : P.cellsOf f0.type = 1) (c1 : P.cellsOf f1.type = 1) (c2 : P.cellsOf f2.type = 1)
    (h : DataW.trod enc P w base spare held fuel t cs = some x) :
    cs = [.slice none 0 0] ∨
    ∃ (a : Addr) (len cap n : Nat) (D : Nat → DataW H) (sp : List (DataW H)), cs = [.slice (some a) len cap] ∧ len ≤ cap ∧ cap ≤ maxLen ∧ x.1 = .slice ((List.range len).map D) sp ∧
      ∀ i, i < len → ∃ (v0 v1 v2 : Value) (y0 y1 y2 : DataW H × List MemPlace), w.cell? (a.add (i * 3)) = some v0 ∧ w.cell? (a.add (i * 3 + 1)) = some v1 ∧ w.cell? (a.add (i * 3 + 2)) = some v2 ∧
        D i = .agg [y0.1, y1.1, y2.1] ∧
        DataW.trod enc P w base spare held n f0.type [v0] = some y0 ∧ DataW.trod enc P w base spare held n f1.type [v1] = some y1 ∧ DataW.trod enc P w base spare held n f2.type [v2] = some y2 := by
  rcases open_slice ht h with h0 | ⟨a, len, cap, m, n, D, Pl, rfl, hb, hl, hm, hmm, rfl, hx⟩
  · exact Or.inl h0.1
  right
  have hlm : len ≤ m := by rw [hmm]; split <;> omega
  refine ⟨a, len, cap, n - 1, D, _, rfl, hl, hm, rfl, fun i hi => ?_⟩
  obtain ⟨cs', h1, h2⟩ := hx i (by omega)
  rw [ce] at h1
  obtain ⟨_, hlen, hcell⟩ := World.cells?_some h1
  obtain ⟨xs, k, hk, hxy, _, hxl, hf⟩ := DataW.trod_struct he h2
  have hk' : k = n - 1 := by omega
  subst hk'
  match xs, hxl, cs', hlen with
  | [y0, y1, y2], _, [v0, v1, v2], _ =>
    have g0 := hf 0 f0 rfl
    have g1 := hf 1 f1 rfl
    have g2 := hf 2 f2 rfl
    simp [o0, o1, o2, c0, c1, c2] at g0 g1 g2
    have e0 := hcell 0 (by omega)
    have e1 := hcell 1 (by omega)
    have e2 := hcell 2 (by omega)
    rw [add_add] at e0 e1 e2
    simp only [Prod.mk.injEq] at hxy
    exact ⟨v0, v1, v2, y0, y1, y2, by simpa using e0, by simpa using e1, by simpa using e2, hxy.1, g0, g1, g2⟩
theorem slice_shape {t e : TypeId} {fuel : Nat} {v : Value} {x : DataW H × List MemPlace} (ht : P.underlying t = some (.slice e)) (h : DataW.trod enc P w base spare held fuel t [v] = some x) : ∃ a len cap, v = .slice a len cap := by
  rcases open_slice ht h with h0 | ⟨a, len, cap, m, n, D, Pl, h1, _⟩
  · have := h0.1
    simp only [List.cons.injEq, and_true] at this
    exact ⟨_, _, _, this⟩
  · simp only [List.cons.injEq, and_true] at h1
    exact ⟨_, _, _, h1⟩
end
theorem fates_at : ∀ (fs : List Fate) (k : Nat) (f : Fate) (i : Nat), fs[k]? = some f → i < 4 → (fatesC fs)[k * 4 + i]? = (fateC f)[i]?
  | a :: fs, 0, f, i, h, hi => by
    simp at h
    subst h
    show (fateC a ++ fatesC fs)[0 * 4 + i]? = _
    rw [List.getElem?_append_left (by show _ < 4; omega), Nat.zero_mul, Nat.zero_add]
  | a :: fs, k + 1, f, i, h, hi => by
    have ih := fates_at fs k f i (by simpa using h) hi
    show (fateC a ++ fatesC fs)[(k + 1) * 4 + i]? = _
    rw [List.getElem?_append_right (by show 4 ≤ _; omega), ← ih]
    congr 1
    show (k + 1) * 4 + i - 4 = _
    omega
set_option maxRecDepth 100000 in
theorem fates_arg {H : Type} {enc : TypeId × Value → H} {W : World} {spare : Nat → Bool} {held : Bool} {fuel len cap : Nat} {a0 : Option Addr} {x : DataW H × List MemPlace}
    (h : DataW.trod enc Tryz.prog W 0 spare held fuel 23 [Value.slice a0 len cap] = some x) (hb : Rows.uptoBulk x.1 ≤ 1048576) :
    ∃ fs : List Fate, fs.length = len ∧ (∀ ad, a0 = some ad → (0 < fs.length → ad.block < W.heap.size) ∧ ∀ (j : Nat) (u : Value), (fatesC fs)[j]? = some u → W.cell? (ad.add j) = some u) ∧ (a0 = none → fs.length = 0 ∧ cap = 0) ∧ fs.length ≤ 1048576 := by
  rcases TF.open_fours Tryz.underlying23 Tryz.underlying63 (by kernel_rfl) rfl rfl rfl rfl (by kernel_rfl) (by kernel_rfl) (by kernel_rfl) (by kernel_rfl) h with hcs | ⟨ad, len', cap', n, D, sp, hcs, hl, hm, hx, hcell⟩
  · simp at hcs
    obtain ⟨rfl, rfl, rfl⟩ := hcs
    exact ⟨[], rfl, (fun ad h => by cases h), (fun _ => ⟨rfl, rfl⟩), by simp⟩
  · simp at hcs
    obtain ⟨rfl, rfl, rfl⟩ := hcs
    rw [hx, Rows.uptoBulk] at hb
    have hlen : len ≤ 1048576 := by
      have := TF.bulk_len ((List.range len).map D)
      rw [List.length_map, List.length_range] at this
      omega
    have hch : ∀ i, i < len → ∃ r : Fate, W.cell? (ad.add (i * 4)) = some (.int .i64 r.at_) ∧ W.cell? (ad.add (i * 4 + 1)) = some (.int .i64 r.what) ∧ W.cell? (ad.add (i * 4 + 2)) = some (.int .i64 r.keep) ∧ W.cell? (ad.add (i * 4 + 3)) = some (.int .i64 r.torn) := by
      intro i hi
      obtain ⟨v0, v1, v2, v3, y0, y1, y2, y3, e0, e1, e2, e3, hD, t0, t1, t2, t3⟩ := hcell i hi
      obtain ⟨k0, f0, _, _⟩ := DataW.trod_int (by exact Tryz.underlying3) t0
      obtain ⟨k1, f1, _, _⟩ := DataW.trod_int (by exact Tryz.underlying3) t1
      obtain ⟨k2, f2, _, _⟩ := DataW.trod_int (by exact Tryz.underlying3) t2
      obtain ⟨k3, f3, _, _⟩ := DataW.trod_int (by exact Tryz.underlying3) t3
      simp only [List.cons.injEq, and_true] at f0 f1 f2 f3
      exact ⟨⟨k0, k1, k2, k3⟩, by rw [e0, f0], by rw [e1, f1], by rw [e2, f2], by rw [e3, f3]⟩
    haveI : Inhabited Fate := ⟨fateZ⟩
    obtain ⟨R, hR⟩ := Deep.choose_lt hch
    have hrl : ((List.range len).map R).length = len := by simp
    refine ⟨(List.range len).map R, hrl, fun a ha => ?_, (fun e => by cases e), by rw [hrl]; exact hlen⟩
    injection ha with ha
    subst ha
    refine ⟨fun h0 => ?_, fun j u hu => ?_⟩
    · rw [hrl] at h0
      have c0 := (hR 0 h0).1
      have := World.block_lt_of_cell? _ _ c0
      have hab : (ad.add (0 * 4)).block = ad.block := by unfold Addr.add; split <;> rfl
      rw [hab] at this
      exact this
    · have hj := (List.getElem?_eq_some_iff.1 hu).1
      rw [fates_len, hrl] at hj
      have hk : j / 4 < len := by omega
      have hf : ((List.range len).map R)[j / 4]? = some (R (j / 4)) := by rw [List.getElem?_map, List.getElem?_range hk]; rfl
      obtain ⟨d0, d1, d2, d3⟩ := hR (j / 4) hk
      have hat := fun i hi => fates_at _ (j / 4) _ i hf hi
      rcases (by omega : j % 4 = 0 ∨ j % 4 = 1 ∨ j % 4 = 2 ∨ j % 4 = 3) with h0 | h0 | h0 | h0
      · have ej : j = j / 4 * 4 + 0 := by omega
        rw [ej, hat 0 (by omega)] at hu
        rw [show j = j / 4 * 4 by omega, d0]
        exact hu
      · have ej : j = j / 4 * 4 + 1 := by omega
        rw [ej, hat 1 (by omega)] at hu
        rw [ej, d1]
        exact hu
      · have ej : j = j / 4 * 4 + 2 := by omega
        rw [ej, hat 2 (by omega)] at hu
        rw [ej, d2]
        exact hu
      · have ej : j = j / 4 * 4 + 3 := by omega
        rw [ej, hat 3 (by omega)] at hu
        rw [ej, d3]
        exact hu
set_option maxRecDepth 100000 in
theorem edits_arg {H : Type} {enc : TypeId × Value → H} {W : World} {spare : Nat → Bool} {held : Bool} {fuel len cap : Nat} {a0 : Option Addr} {x : DataW H × List MemPlace}
    (h : DataW.trod enc Tryz.prog W 0 spare held fuel 24 [Value.slice a0 len cap] = some x) (hb : Rows.uptoBulk x.1 ≤ 1048576) :
    ∃ (es : List Edit) (vs : List Ev), es.length = len ∧ EdArg W a0 cap es vs ∧ es.length ≤ 1048576 ∧ ∀ e ∈ es, e.path.length ≤ maxLen := by
  rcases open_threes Tryz.underlying24 Tryz.underlying106 (by kernel_rfl) rfl rfl rfl (by kernel_rfl) (by kernel_rfl) (by kernel_rfl) h with hcs | ⟨ad, len', cap', n, D, sp, hcs, hl, hm, hx, hcell⟩
  · simp at hcs
    obtain ⟨rfl, rfl, rfl⟩ := hcs
    exact ⟨[], [], rfl, ⟨fun h0 => absurd h0 (by simp), rfl, (fun j e v h => by simp at h), fun _ => rfl, by simp⟩, by simp, fun e he => by cases he⟩
  · simp at hcs
    obtain ⟨rfl, rfl, rfl⟩ := hcs
    rw [hx, Rows.uptoBulk] at hb
    have hlen : len ≤ 1048576 := by
      have := TF.bulk_len ((List.range len).map D)
      rw [List.length_map, List.length_range] at this
      omega
    have hch : ∀ i, i < len → ∃ r : Edit × Ev, W.cell? (ad.add (i * 3)) = some (.int .i64 r.1.at_) ∧ W.cell? (ad.add (i * 3 + 1)) = some (txt r.1.path) ∧ W.cell? (ad.add (i * 3 + 2)) = some (.slice r.2.a r.1.value.length r.2.c) ∧ TW.Wide W r.2.a r.2.c r.1.value ∧ r.1.value.length ≤ 1048576 ∧ r.1.path.length ≤ maxLen := by
      intro i hi
      obtain ⟨v0, v1, v2, y0, y1, y2, e0, e1, e2, hD, t0, t1, t2⟩ := hcell i hi
      obtain ⟨k0, f0, _, _⟩ := DataW.trod_int (by exact Tryz.underlying3) t0
      obtain ⟨s1, f1, g1, w1⟩ := DataW.trod_string (by exact Tryz.underlying9) t1
      obtain ⟨a2, l2, c2, rfl⟩ := slice_shape Tryz.underlying22 t2
      have hm := TF.bulk_mem (d := D i) (l := (List.range len).map D) (List.mem_map.2 ⟨i, List.mem_range.2 hi, rfl⟩)
      rw [hD] at hm
      simp only [Rows.uptoBulk, Rows.uptoBulkAll] at hm
      obtain ⟨ts, h2, hW⟩ := TF.nodes_wide (a0 := a2) (len := l2) (cap := c2) t2
      have hb2 : Rows.uptoBulk y2.1 ≤ 1048576 := by omega
      have h4 : l2 ≤ 1048576 := by
        rcases TF.open_fours Tryz.underlying22 Tryz.underlying45 (by kernel_rfl) rfl rfl rfl rfl (by kernel_rfl) (by kernel_rfl) (by kernel_rfl) (by kernel_rfl) t2 with hcs | ⟨ad2, len2, cap2, n2, D2, sp2, hcs, _, _, hx2, _⟩
        · simp at hcs
          omega
        · simp at hcs
          obtain ⟨_, rfl, _⟩ := hcs
          rw [hx2, Rows.uptoBulk] at hb2
          have := TF.bulk_len ((List.range l2).map D2)
          rw [List.length_map, List.length_range] at this
          omega
      simp only [List.cons.injEq, and_true] at f0 f1
      exact ⟨⟨⟨k0, s1.data.toList, ts⟩, ⟨a2, c2⟩⟩, by rw [e0, f0], by rw [e1, f1, txt_data], by rw [e2, ← h2], hW, by show ts.length ≤ _; omega, by show s1.data.toList.length ≤ _; rw [← Lib.size_eq]; exact w1⟩
    haveI : Inhabited (Edit × Ev) := ⟨⟨⟨0, [], []⟩, ⟨none, 0⟩⟩⟩
    obtain ⟨R, hR⟩ := Deep.choose_lt hch
    have hrl : ((List.range len).map fun i => (R i).1).length = len := by simp
    have hvl : ((List.range len).map fun i => (R i).2).length = len := by simp
    have get1 : ∀ (k : Nat) (e : Edit), ((List.range len).map fun i => (R i).1)[k]? = some e → k < len ∧ e = (R k).1 := fun k e hk => by
      have hkl : k < len := by have := (List.getElem?_eq_some_iff.1 hk).1; rw [hrl] at this; exact this
      rw [List.getElem?_map, List.getElem?_range hkl] at hk
      simp only [Option.map_some, Option.some.injEq] at hk
      exact ⟨hkl, hk.symm⟩
    have get2 : ∀ (k : Nat) (v : Ev), ((List.range len).map fun i => (R i).2)[k]? = some v → v = (R k).2 := fun k v hk => by
      have hkl : k < len := by have := (List.getElem?_eq_some_iff.1 hk).1; rw [hvl] at this; exact this
      rw [List.getElem?_map, List.getElem?_range hkl] at hk
      simp only [Option.map_some, Option.some.injEq] at hk
      exact hk.symm
    refine ⟨(List.range len).map fun i => (R i).1, (List.range len).map fun i => (R i).2, hrl, ⟨fun h0 => ?_, hvl.trans hrl.symm, fun j e v he hv => ?_, (fun e => by cases e), by rw [hrl]; exact hl⟩, by rw [hrl]; exact hlen, fun e he => ?_⟩
    · rw [hrl] at h0
      obtain ⟨b, off, spot⟩ := ad
      have c0 := (hR 0 (by omega)).1
      have hspot : spot = none := by simpa [Addr.add] using World.cell?_spot c0
      subst hspot
      rw [add_pl] at c0
      refine ⟨b, off, rfl, (World.block_lt_of_cell? _ _ c0 :), fun k e v hk hv => ?_⟩
      obtain ⟨hkl, rfl⟩ := get1 k e hk
      obtain rfl := get2 k v hv
      obtain ⟨d0, d1, d2, _⟩ := hR k hkl
      rw [add_pl] at d0 d1 d2
      exact ⟨d0, by rw [← d1, Nat.add_assoc], by rw [← d2, Nat.add_assoc]⟩
    · obtain ⟨hkl, rfl⟩ := get1 j e he
      obtain rfl := get2 j v hv
      obtain ⟨_, _, _, h1, h2, _⟩ := hR j hkl
      exact ⟨h1, h2⟩
    · obtain ⟨i, hi, rfl⟩ := List.mem_map.1 he
      exact (hR i (List.mem_range.1 hi)).2.2.2.2.2
set_option maxRecDepth 100000 in
/-- The weather. -/
theorem weather_arg {H : Type} {enc : TypeId × Value → H} {W : World} {r : Reach} {b0 : Nat} {spare : Nat → Bool} {held : Bool} {v : Value} {d : DataW H} {p : List MemPlace} (hv : Value.okWide Tryz.prog W r b0 26 v) (h : DataW.Trod enc Tryz.prog W 0 spare held 26 v d p) (hb : Rows.uptoBulk d ≤ 1048576) :
    ∃ (af au : Option Addr) (cf cu : Nat) (fs : List Fate) (es : List Edit) (vs : List Ev), v = .agg #[.slice af fs.length cf, .slice au es.length cu] ∧
      (∀ ad, af = some ad → (0 < fs.length → ad.block < W.heap.size) ∧ ∀ (j : Nat) (u : Value), (fatesC fs)[j]? = some u → W.cell? (ad.add j) = some u) ∧ (af = none → fs.length = 0 ∧ cf = 0) ∧ fs.length ≤ 1048576 ∧
      EdArg W au cu es vs ∧ es.length ≤ 1048576 ∧ ∀ e ∈ es, e.path.length ≤ maxLen := by
  obtain ⟨v0, v1, y0, y1, n, rfl, rfl, _, t0, t1⟩ := Go.Joins.open_agg2 (P := Tryz.prog) (t := 26) Tryz.underlying26 (by kernel_rfl) (by kernel_rfl) hv h
  obtain ⟨af, lf, cf, rfl⟩ := slice_shape Tryz.underlying23 t0
  obtain ⟨au, lu, cu, rfl⟩ := slice_shape Tryz.underlying24 t1
  simp only [Rows.uptoBulk, Rows.uptoBulkAll] at hb
  obtain ⟨fs, rfl, h1, h2, h3⟩ := fates_arg t0 (by omega)
  obtain ⟨es, vs, rfl, h4, h5, h6⟩ := edits_arg t1 (by omega)
  exact ⟨af, au, cf, cu, fs, es, vs, rfl, h1, h2, h3, h4, h5, h6⟩
end DA
end Go.Proofs.YtjkikkpbeceeeaaGreatDoor
end

section
/- DiskStamps answers true for every list of nodes, every weather and every list of calls, of bulk at most 1048576; they read behind the call as they read before. Condition: Go's two tables utf8.first and utf8.acceptRanges lie as Go's text lays them (tied to that text). -/
namespace Go.Proofs.YtjkikkpbeceeeaaGreatDoor
open Go.ChangeShapes Go.WideShapes Go.ChangeAt Go.RowKit Go.Lib
open Go.ChangeMaps (open_string shut_string)
namespace DiskStampsCard


set_option maxRecDepth 100000 in
theorem contract (H : Type) (enc : TypeId × Value → H) (W : World) (base : Nat) (args : Array Value) (ds gs : List (DataW H)) (before : List MemPlace)
    (hval : ∀ (j : Nat) t v, Tryz.f7.params[j]? = some t → args[j]? = some v → Value.okWide Tryz.prog W .any base t v)
    (hW : DataW.Whole enc Tryz.prog Tryz.f7.params.toList Rows.diskStampsSpec.vars false W args.toList ds gs before) (hk : Rows.uptoSmall H (ds ++ gs) = true) (hL : laidMetH Tryz.prog FR.laid W) (hsh : W.ShapedOpen Tryz.prog) :
    Calls Tryz.prog 7 args W fun e W' => ∃ v, e = .returned v ∧ Rows.diskStampsSpec.post enc Tryz.prog Tryz.f7 false true false false W args v W' := by
  have hW' := hW
  obtain ⟨p, q, hA0, hV, rfl, hfz, hnd⟩ := hW
  have hA : DataW.TrodAll enc Tryz.prog W 0 (fun _ => true) true Tryz.f7.params.toList args.toList ds p := hA0
  rw [Tryz.params7] at hA hval
  obtain ⟨v0, vs0, d0, ds0, p0, q0, hargs, rfl, rfl, h0, r0⟩ := trodAll_cons hA
  obtain ⟨v1, vs1, d1, ds1, p1, q1, rfl, rfl, rfl, h1, r1⟩ := trodAll_cons r0
  obtain ⟨v2, vs2, d2, ds2, p2, q2, rfl, rfl, rfl, h2, r2⟩ := trodAll_cons r1
  obtain ⟨rfl, rfl, rfl⟩ := trodAll_nil r2
  obtain rfl : args = #[v0, v1, v2] := by cases args; simp_all
  obtain ⟨rfl, rfl⟩ := trodVars_none hV
  refine LK.post_of rfl (by kernel_rfl) (by kernel_rfl) (fun gs h => by subst h; rfl) hW' ?_
  have hb := of_decide_eq_true hk
  simp only [List.append_nil, List.cons_append, List.nil_append, Rows.uptoBulkAll] at hb
  obtain ⟨a0, len0, cap0, rfl⟩ := okWide_slice Tryz.underlying22 (hval 0 22 v0 rfl rfl)
  obtain ⟨fuel0, hf0⟩ := h0
  obtain ⟨ts, rfl, H0⟩ := TF.nodes_wide hf0
  obtain ⟨af, au, cf, cu, fs, es, vs, rfl, b1, b2, b3, b4, b5, b6⟩ := DA.weather_arg (hval 1 26 v1 rfl rfl) h1 (by omega)
  obtain ⟨a2, len2, cap2, rfl⟩ := okWide_slice Tryz.underlying27 (hval 2 27 v2 rfl rfl)
  obtain ⟨fuel2, hf2⟩ := h2
  obtain ⟨cs, rfl, hcap, hmax, hlay, hlong⟩ := DA.calls_arg hf2
  exact DG.stamps_any a0 a2 cap0 cap2 ts cs fs af cf es vs au cu W (FR.env_of hL hsh) H0 hlay hlong hcap hmax b1 b2 b3 b4 b5 b6
theorem reads (os : Os) {H : Type} (enc : TypeId × Value → H) : ∃ places, DataW.whole enc Tryz.prog (FR.w0 os #[.slice none 0 0, .agg #[.slice none 0 0, .slice none 0 0], .slice none 0 0]).memory Tryz.f7.params.toList Rows.diskStampsSpec.vars false #[Value.slice none 0 0, .agg #[.slice none 0 0, .slice none 0 0], .slice none 0 0].toList 8 = some ([.nil, .agg [.nil, .nil], .nil], [], places) :=
  ⟨[], by kernel_rfl⟩
set_option maxRecDepth 100000 in
theorem lifted (os : Os) (started : os.Started) (H : Type) (enc : TypeId × Value → H) (F : Stop.Interp) :
    ReturnsInHanded {} Tryz.checked os 7 .any ((Rows.OpenSpec.upto Rows.diskStampsSpec).preRow enc Tryz.prog Tryz.f7 Rows.diskStampsUptoRow.domain false Rows.diskStampsUptoRow.laid) (((Rows.OpenSpec.upto Rows.diskStampsSpec).at F).post enc Tryz.prog Tryz.f7 false true false false) := by
  obtain ⟨places, hx⟩ := reads os enc
  refine returnsInHanded_of_row (C := Tryz.checked) (s := Rows.OpenSpec.upto Rows.diskStampsSpec) (laid := FR.laid) FR.own started (by kernel_rfl) Tryz.func7
    (FR.witness (enc := enc) #[.slice none 0 0, .agg #[.slice none 0 0, .slice none 0 0], .slice none 0 0] (by kernel_rfl)
      (OpenSpec.preRow_of_cond 8 hx (by kernel_rfl) (fun k hk => by cases hk; kernel_rfl) (by kernel_rfl) (FR.met os _))) ?_
  intro W base args ds gs before hval hW _ hcond _ hL hsh _
  exact contract H enc W base args ds gs before hval hW (hcond _ rfl) hL hsh
theorem said : Rows.DiskStampsUptoSaid :=
  OpenClaim.holds_of_cond 7 Tryz.f7 rfl rfl rfl rfl rfl rfl rfl ⟨rfl, rfl, rfl, rfl, rfl⟩ rfl rfl rfl rfl rfl (by kernel_rfl) Tryz.func7 (by kernel_rfl)
    (of_decide_eq_true (by kernel_rfl)) (by unfold Func.isWrapper; first | (rw [if_pos (by decide +kernel)]; kernel_rfl) | (rw [if_neg (by decide +kernel)]; exact ⟨rfl, rfl⟩))
    (fun os started H enc _ F => by rw [OpenClaim.pre_eq_preRow]; exact lifted os started H enc F)
theorem plain (f : FuncId) (fn : Func) (hf : Tryz.pinned.checked.prog.funcNamed "hawser/hawserlaw07.DiskStamps" = some f) (hfn : Tryz.pinned.checked.prog.funcs[f]? = some fn) :
    false = Tryz.pinned.checked.prog.looks [] ∧ ∀ (j : Nat) t, fn.params[j]? = some t → Tryz.pinned.checked.prog.wantsStandIn t = false := by
  obtain rfl : f = 7 := Option.some.inj ((show Tryz.prog.funcNamed "hawser/hawserlaw07.DiskStamps" = some 7 by kernel_rfl).symm.trans hf) |>.symm
  obtain rfl : fn = Tryz.f7 := (Option.some.inj (Tryz.func7.symm.trans hfn)).symm
  refine ⟨by kernel_rfl, fun j t ht => ?_⟩
  have hall : (Tryz.f7.params.all fun t => !(Tryz.prog.wantsStandIn t)) = true := by kernel_rfl
  have := (Array.all_eq_true_iff_forall_mem.1 hall) t (Array.mem_of_getElem? ht)
  have h2 : Tryz.prog.wantsStandIn t = false := by simpa using this
  exact h2
end DiskStampsCard
theorem diskStampsUpto_card : Rows.DiskStampsUptoCardSaid :=
  Claim7.holds_tied_plain_at .later [] _ _ _ _ DiskStampsCard.said (fun _ h => by cases h) (by kernel_rfl) (fun _ h => by cases h) diskStampsUpto_row_tie rfl ⟨rfl, rfl⟩ (by kernel_rfl) rfl DiskStampsCard.plain (by kernel_rfl)
#print axioms diskStampsUpto_card
end Go.Proofs.YtjkikkpbeceeeaaGreatDoor
end
