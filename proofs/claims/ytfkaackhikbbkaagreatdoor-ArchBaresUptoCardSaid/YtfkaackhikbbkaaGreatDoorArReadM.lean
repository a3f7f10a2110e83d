/- Layer 9: what a round of the program's read does to memory. -/
import Derived.Test.YtfkaackhikbbkaaGreatDoorMg1
import Derived.Test.YtfkaackhikbbkaaGreatDoorMg8
import Derived.Test.YtfkaackhikbbkaaGreatDoorMg2
import Derived.Test.YtfkaackhikbbkaaGreatDoorArMake
namespace Go.Proofs.YtfkaackhikbbkaaGreatDoor
open Go.RowKit Go.Lib
namespace AD
open OM TP TM TR AP AR FP
open CR (At ptr NPost TPost num_all text_all count_all end_all endR)

theorem step_app_eq {P : Program} {w : World} {ops : Array Oper} {o : Oper} {a : Act} {K : Act → World → Prop} {Q : Exit → Act → World → Prop} {E : Prop} (hgd : o.guard = none) (s x : Operand) (t t2 : TypeId)
    (ho : o.op = .call { callee := .builtin .append, args := #[s, x], argTypes := #[t, t2] }) (u v : Value) (hs : a.eval s = u) (hx : a.eval x = v) {v' : Value} {w' : World}
    (hr : (Builtin.append_ #[t, t2] o.type #[u, v]).run P w = .ok v' w') (h : K (a.put o.dst v') w') : if Region.wanted o (yielded ops a.tmps) = true then Oper.wp P o a w K Q else E := by
  have hw : Region.wanted o (yielded ops a.tmps) = true := by simp [Region.wanted, hgd]
  rw [if_pos hw]
  unfold Oper.wp execOp
  simp only [ho, resolve, invoke, builtin, Sem.run_bind, Sem.run_pure, Result.andThen_ok, List.map_toArray, List.map_cons, List.map_nil, hs, hx, hr]
  exact h
theorem row_set {W : World} {g j : Nat} {cur : Array Value} {t : TypeId} {fr : Nat × Nat} (h : W.heap[g]? = some (.cells cur t fr)) (u : Value) : (W.setCell ⟨g, j, none⟩ u).heap[g]? = some (.cells (cur.setIfInBounds j u) t fr) := by
  simp [World.setCell, Array.getElem?_modify, h]
theorem kinds_apart {W : World} {b1 b2 s1 s2 n1 n2 : Nat} {e1 e2 : TypeId} {v1 v2 : Value} {x1 x2 : List Value} (h1 : W.ownsRow b1 e1 s1 v1 n1 x1) (h2 : W.ownsRow b2 e2 s2 v2 n2 x2) (hne : e1 ≠ e2) : ∀ g, v2.ownBlock = some g → ¬ v1.ownBlock = some g := fun g hg2 hg1 => by
  obtain ⟨c1, f1, e⟩ := owns_kind h1 g hg1
  obtain ⟨c2, f2, e'⟩ := owns_kind h2 g hg2
  rw [e] at e'
  injection e' with e'
  injection e' with _ e3
  exact hne e3
theorem infoM : (Tryz.prog.info? 67).map (fun i => (i.zero, i.size, i.bytes)) = some (some (.agg #[.int .i64 0, .int .i64 0, .int .i64 0]), 3, 24) := by kernel_rfl
theorem three_new (W : World) (s : Sm) (t : TypeId) : ∀ (j : Nat) (u : Value), (smCells s)[j]? = some u → (W.alloc (.cells #[.int .i64 s.ino, .int .i64 s.size, .int .i64 s.time] t)).cell? ((⟨W.heap.size, 0, none⟩ : Addr).add j) = some u := by
  intro j u hj
  have h := heap_alloc_new W (.cells #[.int .i64 s.ino, .int .i64 s.size, .int .i64 s.time] t)
  have hadd : (⟨W.heap.size, 0, none⟩ : Addr).add j = ⟨W.heap.size, j, none⟩ := by unfold Addr.add; split <;> simp_all
  have e : (#[Value.int .i64 s.ino, Value.int .i64 s.size, Value.int .i64 s.time] : Array Value) = (smCells s).toArray := rfl
  rw [hadd, cell_of_row _ _ j _ _ _ h, e, List.getElem?_toArray]
  exact hj
theorem sm_one (s : Sm) : ∀ u ∈ smCells s, u.oneCell' = true := by
  intro u hu
  unfold smCells at hu
  simp at hu
  rcases hu with rfl | rfl | rfl <;> rfl
/-- A list of nodes with one more. -/
theorem node_step {W : World} {ts : List Nd} {n : Nd} {base m : Nat} {u : Value} {X D : ByteArray} (h : W.ownsRow base 25 4 u m (nodesC ts)) (hX : txt n.path = .string X) (hD : txt n.data = .string D) (hl : m ≤ 1000) (hb : base ≤ W.heap.size) :
    ∃ a' c' W3, (Builtin.append_ #[22, 22] 22 #[u, .slice (some ⟨W.heap.size, 0, none⟩) 1 1]).run Tryz.prog (W.alloc (.cells #[.string X, .int .i64 n.kind, .string D, .int .i64 n.mode] 25)) = .ok (.slice a' (m + 1) c') W3 ∧ W3.ownsRow base 25 4 (.slice a' (m + 1) c') (m + 1) (nodesC (ts ++ [n])) ∧ Out (fun k => u.ownBlock = some k) W W3 := by
  obtain ⟨i0, hi, hz0, hz1, hz2⟩ := info_parts infoN
  have o2 := World.ownsRow.alloc h (.cells #[.string X, .int .i64 n.kind, .string D, .int .i64 n.mode] 25)
  have hnew := four_new W W.heap.size rfl n (.string X) (.string D) hX hD 25
  obtain ⟨v', W3, hr, ho, hg, _⟩ := run_append_own (P := Tryz.prog) (w := W.alloc (.cells #[.string X, .int .i64 n.kind, .string D, .int .i64 n.mode] 25)) base 22 22 25 i0 (ndVal zeroN) 4 48 Tryz.underlying22 hi hz0 hz1 hz2 rfl (by decide) u m _ o2 ⟨W.heap.size, 0, none⟩ 1 1
    (ndCells n) rfl hnew (nd_one n) (by unfold maxLen; omega) (by omega) (by rw [World.size_alloc]; omega)
  obtain ⟨a', c', hv', _⟩ := owns_view ho
  subst hv'
  refine ⟨a', c', W3, hr, ?_, ((Out.refl _ W).alloc _).grown hg (fun j hj _ => hj)⟩
  rw [nodes_snoc]
  exact ho
theorem stamp_step {W : World} {us : List Sm} {s : Sm} {base m : Nat} {u : Value} (h : W.ownsRow base 67 3 u m (smsC us)) (hl : m ≤ 1000) (hb : base ≤ W.heap.size) :
    ∃ a' c' W3, (Builtin.append_ #[33, 33] 33 #[u, .slice (some ⟨W.heap.size, 0, none⟩) 1 1]).run Tryz.prog (W.alloc (.cells #[.int .i64 s.ino, .int .i64 s.size, .int .i64 s.time] 67)) = .ok (.slice a' (m + 1) c') W3 ∧ W3.ownsRow base 67 3 (.slice a' (m + 1) c') (m + 1) (smsC (us ++ [s])) ∧ Out (fun k => u.ownBlock = some k) W W3 := by
  obtain ⟨i0, hi, hz0, hz1, hz2⟩ := info_parts infoM
  have o2 := World.ownsRow.alloc h (.cells #[.int .i64 s.ino, .int .i64 s.size, .int .i64 s.time] 67)
  have hnew := three_new W s 67
  obtain ⟨v', W3, hr, ho, hg, _⟩ := run_append_own (P := Tryz.prog) (w := W.alloc (.cells #[.int .i64 s.ino, .int .i64 s.size, .int .i64 s.time] 67)) base 33 33 67 i0 (.agg #[.int .i64 0, .int .i64 0, .int .i64 0]) 3 24 Tryz.underlying33 hi hz0 hz1 hz2 rfl (by decide) u m _ o2 ⟨W.heap.size, 0, none⟩ 1 1
    (smCells s) rfl hnew (sm_one s) (by unfold maxLen; omega) (by omega) (by rw [World.size_alloc]; omega)
  obtain ⟨a', c', hv', _⟩ := owns_view ho
  subst hv'
  refine ⟨a', c', W3, hr, ?_, ((Out.refl _ W).alloc _).grown hg (fun j hj _ => hj)⟩
  rw [sms_snoc]
  exact ho
/-- What is being read: the reader, the archive's box, the answer's box, both lists. -/
structure RIn (w : World) (B rb ab rs : Nat) (ca cr : Array Value) (r : Rd) (n m : Nat) (ts : List Nd) (us : List Sm) (vt vs : Value) (wr : World) : Prop where
  rd : At rb r wr
  row : wr.heap[ab]? = some (.cells (ca ++ #[vt, vs]) 35 (0, 0))
  res : wr.heap[rs]? = some (.cells cr 35 (0, 0))
  nds : wr.ownsRow B 25 4 vt n (nodesC ts)
  sms : wr.ownsRow B 67 3 vs m (smsC us)
  below : Below w.heap.size w wr
  big : B ≤ wr.heap.size
  rbB : rb < B
  abB : ab < B
  rsB : rs < B
  rbw : w.heap.size ≤ rb
  abw : w.heap.size ≤ ab
  a1 : ab ≠ rb
  a2 : rs ≠ rb
  a3 : rs ≠ ab
  two : ca.size = 2
/-- The reader has read. -/
theorem RIn.turn {w : World} {B rb ab rs : Nat} {ca cr : Array Value} {r r' : Rd} {n m : Nat} {ts : List Nd} {us : List Sm} {vt vs : Value} {wr W : World} (h : RIn w B rb ab rs ca cr r n m ts us vt vs wr) (hr : At rb r' W) (hb : Out (· = rb) wr W) : RIn w B rb ab rs ca cr r' n m ts us vt vs W := by
  obtain ⟨h1, h2, h3, h4, h5, h6, h7, h8, h9, h10, h11, h12, h13, h14, h15, h16⟩ := h
  exact ⟨hr, hb.row h2 h13, hb.row h3 h14, hb.owns h4 (fun g hg e => by have := (h4.lt g hg).1; omega), hb.owns h5 (fun g hg e => by have := (h5.lt g hg).1; omega),
    ((Out.of_below h6).then hb (fun j hj e => by omega)).below (fun j hj _ hn => by omega) (Nat.le_refl _), Nat.le_trans h7 hb.size, h8, h9, h10, h11, h12, h13, h14, h15, h16⟩
theorem RIn.thenBelow {w : World} {B rb ab rs : Nat} {ca cr : Array Value} {r : Rd} {n m : Nat} {ts : List Nd} {us : List Sm} {vt vs : Value} {wr W : World} (h : RIn w B rb ab rs ca cr r n m ts us vt vs wr) (hb : Below wr.heap.size wr W) : RIn w B rb ab rs ca cr r n m ts us vt vs W := by
  obtain ⟨h1, h2, h3, h4, h5, h6, h7, h8, h9, h10, h11, h12, h13, h14, h15, h16⟩ := h
  have ho : Out (fun k => wr.heap.size ≤ k) wr W := Out.of_below hb
  exact ⟨h1.out ho (fun e => by have := h1.lt; omega), ho.row h2 (fun e => by have := (Array.getElem?_eq_some_iff.1 h2).1; omega), ho.row h3 (fun e => by have := (Array.getElem?_eq_some_iff.1 h3).1; omega), owns_below h4 hb, owns_below h5 hb, h6.trans (hb.mono h6.size), Nat.le_trans h7 hb.size, h8, h9, h10, h11, h12, h13, h14, h15, h16⟩
/-- A node more. -/
theorem RIn.node {w : World} {B rb ab rs : Nat} {ca cr : Array Value} {r : Rd} {n m : Nat} {ts ts' : List Nd} {us : List Sm} {vt vs vt' : Value} {n' : Nat} {wr W : World} (h : RIn w B rb ab rs ca cr r n m ts us vt vs wr) (ho : W.ownsRow B 25 4 vt' n' (nodesC ts')) (hb : Out (fun k => vt.ownBlock = some k) wr W) :
    RIn w B rb ab rs ca cr r n' m ts' us vt' vs (W.setCell ⟨ab, 2, none⟩ vt') := by
  obtain ⟨h1, h2, h3, h4, h5, h6, h7, h8, h9, h10, h11, h12, h13, h14, h15, h16⟩ := h
  have hB : ∀ g, vt.ownBlock = some g → B ≤ g := fun g hg => (h4.lt g hg).1
  have hw : w.heap.size ≤ B := by omega
  have s1 : Out (· = ab) W (W.setCell ⟨ab, 2, none⟩ vt') := (Out.refl (· = ab) W).setCell (p := ⟨ab, 2, none⟩) (fun _ => rfl) _
  have r1 := hb.row h2 (fun e => by have := hB _ e; omega)
  refine ⟨(h1.out hb (fun e => by have := hB _ e; omega)).out s1 (fun e => h13 e.symm), ?_, s1.row (hb.row h3 (fun e => by have := hB _ e; omega)) h15, s1.owns ho (fun g hg e => by have := (ho.lt g hg).1; omega), ?_, ?_, ?_, h8, h9, h10, h11, h12, h13, h14, h15, h16⟩
  · have := row_set (j := 2) r1 vt'
    rw [this]
    congr 2
    match ca, h16 with
    | ⟨[x, y]⟩, _ => rfl
  · have o5 := hb.owns h5 (kinds_apart h4 h5 (by decide))
    exact s1.owns o5 (fun g hg e => by have := (o5.lt g hg).1; omega)
  · exact (((Out.of_below h6).then hb (fun j hj e => by have := hB _ e; omega)).then s1 (fun j hj e => by omega)).below (fun j hj _ hn => by omega) (Nat.le_refl _)
  · have := hb.size
    simp [World.setCell]
    omega
theorem RIn.stamp {w : World} {B rb ab rs : Nat} {ca cr : Array Value} {r : Rd} {n m : Nat} {ts : List Nd} {us us' : List Sm} {vt vs vs' : Value} {m' : Nat} {wr W : World} (h : RIn w B rb ab rs ca cr r n m ts us vt vs wr) (ho : W.ownsRow B 67 3 vs' m' (smsC us')) (hb : Out (fun k => vs.ownBlock = some k) wr W) :
    RIn w B rb ab rs ca cr r n m' ts us' vt vs' (W.setCell ⟨ab, 3, none⟩ vs') := by
  obtain ⟨h1, h2, h3, h4, h5, h6, h7, h8, h9, h10, h11, h12, h13, h14, h15, h16⟩ := h
  have hB : ∀ g, vs.ownBlock = some g → B ≤ g := fun g hg => (h5.lt g hg).1
  have hw : w.heap.size ≤ B := by omega
  have s1 : Out (· = ab) W (W.setCell ⟨ab, 3, none⟩ vs') := (Out.refl (· = ab) W).setCell (p := ⟨ab, 3, none⟩) (fun _ => rfl) _
  have r1 := hb.row h2 (fun e => by have := hB _ e; omega)
  refine ⟨(h1.out hb (fun e => by have := hB _ e; omega)).out s1 (fun e => h13 e.symm), ?_, s1.row (hb.row h3 (fun e => by have := hB _ e; omega)) h15, ?_, s1.owns ho (fun g hg e => by have := (ho.lt g hg).1; omega), ?_, ?_, h8, h9, h10, h11, h12, h13, h14, h15, h16⟩
  · have := row_set (j := 3) r1 vs'
    rw [this]
    congr 2
    match ca, h16 with
    | ⟨[x, y]⟩, _ => rfl
  · have o5 := hb.owns h4 (kinds_apart h5 h4 (by decide))
    exact s1.owns o5 (fun g hg e => by have := (o5.lt g hg).1; omega)
  · exact (((Out.of_below h6).then hb (fun j hj e => by have := hB _ e; omega)).then s1 (fun j hj e => by omega)).below (fun j hj _ hn => by omega) (Nat.le_refl _)
  · have := hb.size
    simp [World.setCell]
    omega
end AD
end Go.Proofs.YtfkaackhikbbkaaGreatDoor
