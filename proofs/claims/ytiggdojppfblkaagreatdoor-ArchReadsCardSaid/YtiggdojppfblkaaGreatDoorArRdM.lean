/- Layer 9: the document's Decode in memory: what is being read. -/
import Derived.Test.YtiggdojppfblkaaGreatDoorArRg
import Derived.Test.YtiggdojppfblkaaGreatDoorArDec
import Derived.Test.YtiggdojppfblkaaGreatDoorArRdP
namespace Go.Proofs.YtiggdojppfblkaaGreatDoor
open Go.RowKit Go.Lib Go.BigFrame
namespace AD
open OM TP TM TR AP AR FP

/-- What is being read: the reader, the archive's box, the answer's box, both lists. -/
structure DIn (w : World) (B rb ab rs : Nat) (ca cr : Array Value) (r : Rd) (n m : Nat) (ts : List Nd) (us : List Sm) (vt vs : Value) (wr : World) : Prop where
  rd : RR.At rb r wr
  row : wr.heap[ab]? = some (.cells (ca ++ #[vt, vs]) 35 (0, 0))
  res : wr.heap[rs]? = some (.cells cr 35 (0, 0))
  nds : wr.ownsRow B 25 4 vt n (nodesC ts)
  sms : wr.ownsRow B 67 3 vs m (smsC us)
  below : Below w.heap.size w wr
  big : B ≤ wr.heap.size
  rbB : rb < B
  abB : ab < B
  rsB : rs < B
  rbw : w.heap.size ≤ rb
  abw : w.heap.size ≤ ab
  a1 : ab ≠ rb
  a2 : rs ≠ rb
  a3 : rs ≠ ab
  two : ca.size = 2
/-- The reader has read. -/
theorem DIn.turn {w : World} {B rb ab rs : Nat} {ca cr : Array Value} {r r' : Rd} {n m : Nat} {ts : List Nd} {us : List Sm} {vt vs : Value} {wr W : World} (h : DIn w B rb ab rs ca cr r n m ts us vt vs wr) (hr : RR.At rb r' W) (hb : Out (· = rb) wr W) : DIn w B rb ab rs ca cr r' n m ts us vt vs W := by
  obtain ⟨h1, h2, h3, h4, h5, h6, h7, h8, h9, h10, h11, h12, h13, h14, h15, h16⟩ := h
  exact ⟨hr, hb.row h2 h13, hb.row h3 h14, hb.owns h4 (fun g hg e => by have := (h4.lt g hg).1; omega), hb.owns h5 (fun g hg e => by have := (h5.lt g hg).1; omega),
    ((Out.of_below h6).then hb (fun j hj e => by omega)).below (fun j hj _ hn => by omega) (Nat.le_refl _), Nat.le_trans h7 hb.size, h8, h9, h10, h11, h12, h13, h14, h15, h16⟩
theorem DIn.thenBelow {w : World} {B rb ab rs : Nat} {ca cr : Array Value} {r : Rd} {n m : Nat} {ts : List Nd} {us : List Sm} {vt vs : Value} {wr W : World} (h : DIn w B rb ab rs ca cr r n m ts us vt vs wr) (hb : Below wr.heap.size wr W) : DIn w B rb ab rs ca cr r n m ts us vt vs W := by
  obtain ⟨h1, h2, h3, h4, h5, h6, h7, h8, h9, h10, h11, h12, h13, h14, h15, h16⟩ := h
  have ho : Out (fun k => wr.heap.size ≤ k) wr W := Out.of_below hb
  exact ⟨h1.out ho (fun e => by have := h1.lt; omega), ho.row h2 (fun e => by have := (Array.getElem?_eq_some_iff.1 h2).1; omega), ho.row h3 (fun e => by have := (Array.getElem?_eq_some_iff.1 h3).1; omega), owns_below h4 hb, owns_below h5 hb, h6.trans (hb.mono h6.size), Nat.le_trans h7 hb.size, h8, h9, h10, h11, h12, h13, h14, h15, h16⟩
/-- A box of its own is written. -/
theorem DIn.put {w : World} {B rb ab rs : Nat} {ca cr : Array Value} {r : Rd} {n m : Nat} {ts : List Nd} {us : List Sm} {vt vs : Value} {wr : World} (h : DIn w B rb ab rs ca cr r n m ts us vt vs wr) {bx : Nat} (j : Nat) (u : Value) (hB : B ≤ bx) (ht : ∀ g, vt.ownBlock = some g → g ≠ bx) (hs : ∀ g, vs.ownBlock = some g → g ≠ bx) : DIn w B rb ab rs ca cr r n m ts us vt vs (wr.setCell ⟨bx, j, none⟩ u) := by
  obtain ⟨h1, h2, h3, h4, h5, h6, h7, h8, h9, h10, h11, h12, h13, h14, h15, h16⟩ := h
  have ho : Out (· = bx) wr (wr.setCell ⟨bx, j, none⟩ u) := (Out.refl (· = bx) wr).setCell (p := ⟨bx, j, none⟩) (fun _ => rfl) _
  exact ⟨h1.out ho (fun e => by omega), ho.row h2 (fun e => by omega), ho.row h3 (fun e => by omega), ho.owns h4 (fun g hg e => ht g hg e), ho.owns h5 (fun g hg e => hs g hg e),
    ((Out.of_below h6).then ho (fun j hj e => by omega)).below (fun j hj _ hn => by omega) (Nat.le_refl _), Nat.le_trans h7 ho.size, h8, h9, h10, h11, h12, h13, h14, h15, h16⟩
/-- A node more. -/
theorem DIn.node {w : World} {B rb ab rs : Nat} {ca cr : Array Value} {r : Rd} {n m : Nat} {ts ts' : List Nd} {us : List Sm} {vt vs vt' : Value} {n' : Nat} {wr W : World} (h : DIn w B rb ab rs ca cr r n m ts us vt vs wr) (ho : W.ownsRow B 25 4 vt' n' (nodesC ts')) (hb : Out (fun k => vt.ownBlock = some k) wr W) :
    DIn w B rb ab rs ca cr r n' m ts' us vt' vs (W.setCell ⟨ab, 2, none⟩ vt') := by
  obtain ⟨h1, h2, h3, h4, h5, h6, h7, h8, h9, h10, h11, h12, h13, h14, h15, h16⟩ := h
  have hB : ∀ g, vt.ownBlock = some g → B ≤ g := fun g hg => (h4.lt g hg).1
  have hw : w.heap.size ≤ B := by omega
  have s1 : Out (· = ab) W (W.setCell ⟨ab, 2, none⟩ vt') := (Out.refl (· = ab) W).setCell (p := ⟨ab, 2, none⟩) (fun _ => rfl) _
  have r1 := hb.row h2 (fun e => by have := hB _ e; omega)
  refine ⟨(h1.out hb (fun e => by have := hB _ e; omega)).out s1 (fun e => h13 e.symm), ?_, s1.row (hb.row h3 (fun e => by have := hB _ e; omega)) h15, s1.owns ho (fun g hg e => by have := (ho.lt g hg).1; omega), ?_, ?_, ?_, h8, h9, h10, h11, h12, h13, h14, h15, h16⟩
  · have := row_set (j := 2) r1 vt'
    rw [this]
    congr 2
    match ca, h16 with
    | ⟨[x, y]⟩, _ => rfl
  · have o5 := hb.owns h5 (kinds_apart h4 h5 (by decide))
    exact s1.owns o5 (fun g hg e => by have := (o5.lt g hg).1; omega)
  · exact (((Out.of_below h6).then hb (fun j hj e => by have := hB _ e; omega)).then s1 (fun j hj e => by omega)).below (fun j hj _ hn => by omega) (Nat.le_refl _)
  · have := hb.size
    simp [World.setCell]
    omega
theorem DIn.stamp {w : World} {B rb ab rs : Nat} {ca cr : Array Value} {r : Rd} {n m : Nat} {ts : List Nd} {us us' : List Sm} {vt vs vs' : Value} {m' : Nat} {wr W : World} (h : DIn w B rb ab rs ca cr r n m ts us vt vs wr) (ho : W.ownsRow B 67 3 vs' m' (smsC us')) (hb : Out (fun k => vs.ownBlock = some k) wr W) :
    DIn w B rb ab rs ca cr r n m' ts us' vt vs' (W.setCell ⟨ab, 3, none⟩ vs') := by
  obtain ⟨h1, h2, h3, h4, h5, h6, h7, h8, h9, h10, h11, h12, h13, h14, h15, h16⟩ := h
  have hB : ∀ g, vs.ownBlock = some g → B ≤ g := fun g hg => (h5.lt g hg).1
  have hw : w.heap.size ≤ B := by omega
  have s1 : Out (· = ab) W (W.setCell ⟨ab, 3, none⟩ vs') := (Out.refl (· = ab) W).setCell (p := ⟨ab, 3, none⟩) (fun _ => rfl) _
  have r1 := hb.row h2 (fun e => by have := hB _ e; omega)
  refine ⟨(h1.out hb (fun e => by have := hB _ e; omega)).out s1 (fun e => h13 e.symm), ?_, s1.row (hb.row h3 (fun e => by have := hB _ e; omega)) h15, ?_, s1.owns ho (fun g hg e => by have := (ho.lt g hg).1; omega), ?_, ?_, h8, h9, h10, h11, h12, h13, h14, h15, h16⟩
  · have := row_set (j := 3) r1 vs'
    rw [this]
    congr 2
    match ca, h16 with
    | ⟨[x, y]⟩, _ => rfl
  · have o5 := hb.owns h4 (kinds_apart h5 h4 (by decide))
    exact s1.owns o5 (fun g hg e => by have := (o5.lt g hg).1; omega)
  · exact (((Out.of_below h6).then hb (fun j hj e => by have := hB _ e; omega)).then s1 (fun j hj e => by omega)).below (fun j hj _ hn => by omega) (Nat.le_refl _)
  · have := hb.size
    simp [World.setCell]
    omega
theorem DIn.pair {w : World} {B rb ab rs : Nat} {x y u : Value} {cr : Array Value} {r : Rd} {n m : Nat} {ts : List Nd} {us : List Sm} {vt vs : Value} {wr : World} (h : DIn w B rb ab rs #[x, y] cr r n m ts us vt vs wr) (hab : w.heap.size ≤ ab) : DIn w B rb ab rs #[u, y] cr r n m ts us vt vs (wr.setCell ⟨ab, 0, none⟩ u) := by
  obtain ⟨h1, h2, h3, h4, h5, h6, h7, h8, h9, h10, h11, h12, h13, h14, h15, h16⟩ := h
  have ho : Out (· = ab) wr (wr.setCell ⟨ab, 0, none⟩ u) := (Out.refl (· = ab) wr).setCell (p := ⟨ab, 0, none⟩) (fun _ => rfl) _
  refine ⟨h1.out ho (fun e => h13 e.symm), ?_, ho.row h3 h15, ho.owns h4 (fun g hg e => by have := (h4.lt g hg).1; omega), ho.owns h5 (fun g hg e => by have := (h5.lt g hg).1; omega),
    ((Out.of_below h6).then ho (fun j hj e => by omega)).below (fun j hj _ hn => by omega) (Nat.le_refl _), Nat.le_trans h7 ho.size, h8, h9, h10, h11, h12, h13, h14, h15, rfl⟩
  rw [row_set (j := 0) h2 u]
  rfl
theorem DIn.serial {w : World} {B rb ab rs : Nat} {x y u : Value} {cr : Array Value} {r : Rd} {n m : Nat} {ts : List Nd} {us : List Sm} {vt vs : Value} {wr : World} (h : DIn w B rb ab rs #[x, y] cr r n m ts us vt vs wr) (hab : w.heap.size ≤ ab) : DIn w B rb ab rs #[x, u] cr r n m ts us vt vs (wr.setCell ⟨ab, 1, none⟩ u) := by
  obtain ⟨h1, h2, h3, h4, h5, h6, h7, h8, h9, h10, h11, h12, h13, h14, h15, h16⟩ := h
  have ho : Out (· = ab) wr (wr.setCell ⟨ab, 1, none⟩ u) := (Out.refl (· = ab) wr).setCell (p := ⟨ab, 1, none⟩) (fun _ => rfl) _
  refine ⟨h1.out ho (fun e => h13 e.symm), ?_, ho.row h3 h15, ho.owns h4 (fun g hg e => by have := (h4.lt g hg).1; omega), ho.owns h5 (fun g hg e => by have := (h5.lt g hg).1; omega),
    ((Out.of_below h6).then ho (fun j hj e => by omega)).below (fun j hj _ hn => by omega) (Nat.le_refl _), Nat.le_trans h7 ho.size, h8, h9, h10, h11, h12, h13, h14, h15, rfl⟩
  rw [row_set (j := 1) h2 u]
  rfl
theorem DIn.fin {w : World} {B rb ab rs : Nat} {ca cr : Array Value} {r : Rd} {n m : Nat} {ts : List Nd} {us : List Sm} {vt vs : Value} {wr W : World} (h : DIn w B rb ab rs ca cr r n m ts us vt vs wr) (hrs : w.heap.size ≤ rs) (ho : Out (· = rs) wr W) :
    W.ownsRow w.heap.size 25 4 vt n (nodesC ts) ∧ W.ownsRow w.heap.size 67 3 vs m (smsC us) ∧ Below w.heap.size w W := by
  have h1 := h.rsB
  have h2 := h.rbw
  have h3 := h.rbB
  refine ⟨owns_base (ho.owns h.nds (fun g hg e => by have := (h.nds.lt g hg).1; omega)) _ (by omega), owns_base (ho.owns h.sms (fun g hg e => by have := (h.sms.lt g hg).1; omega)) _ (by omega), ?_⟩
  exact ((Out.of_below h.below).then ho (fun j hj e => by omega)).below (fun j hj _ hn => by omega) (Nat.le_refl _)
end AD
end Go.Proofs.YtiggdojppfblkaaGreatDoor
