/- Layer 4: bytes that a call owns, wherever they lie (made by append, or out of a text): what an append of them does, and what text they are. -/
import Derived.Test.YtmpmmebmhffaeaaDoorQHashRow
import Derived.Test.YtmpmmebmhffaeaaDoorQHashRef2
import Derived.ArgAppend
set_option linter.all false
set_option maxRecDepth 100000
set_option maxHeartbeats 25600000
namespace Go.Proofs.YtmpmmebmhffaeaaDoor
open Go.RowKit Go.Lib
namespace HQ
open HP HS HR

/-- The slice v holds just these bytes, in a block of the call's own; what is spare behind them may be written. -/
def Own8 (w : World) (B : Nat) (v : Value) (l : List UInt8) : Prop :=
  (v = .slice none 0 0 ∧ l = []) ∨
  ∃ g cap, v = .slice (some ⟨g, 0, none⟩) l.length cap ∧ B ≤ g ∧ g < w.heap.size ∧ l.length ≤ cap ∧
    (∀ j b, l[j]? = some b → w.cell? ⟨g, j, none⟩ = some (.int .u8 (b.toNat : Nat))) ∧
    (∀ j, l.length ≤ j → j < cap → (w.cell? ⟨g, j, none⟩).isSome = true ∧ w.frozen? ⟨g, j, none⟩ = false)
theorem Own8.nil (w : World) (B : Nat) : Own8 w B (.slice none 0 0) [] := .inl ⟨rfl, rfl⟩
theorem Own8.below {w w' : World} {B : Nat} {v : Value} {l : List UInt8} (h : Own8 w B v l) (hb : Below w.heap.size w w') : Own8 w' B v l := by
  rcases h with h | ⟨g, cap, hv, hg, hlt, hc, h1, h2⟩
  · exact .inl h
  · refine .inr ⟨g, cap, hv, hg, Nat.lt_of_lt_of_le hlt hb.size, hc, fun j b hj => (hb.cell (p := ⟨g, j, none⟩) hlt).trans (h1 j b hj), fun j hj hj2 => ?_⟩
    have e := hb.cell (p := ⟨g, j, none⟩) hlt
    have f := hb.frozen (p := ⟨g, j, none⟩) hlt
    rw [e, f]
    exact h2 j hj hj2
theorem Own8.alloc {w : World} {B : Nat} {v : Value} {l : List UInt8} (h : Own8 w B v l) (o : Obj) : Own8 (w.alloc o) B v l := h.below ((Below.refl _ _).alloc (Nat.le_refl _) _)
theorem Own8.drew {w : World} {B : Nat} {v : Value} {l : List UInt8} (h : Own8 w B v l) : Own8 w.drew B v l := h.below ((Below.refl _ _).drew)
theorem bytes_get {l : List UInt8} {j : Nat} {u : Value} (h : (cells l)[j]? = some u) : ∃ b, l[j]? = some b ∧ u = .int .u8 (b.toNat : Nat) := by
  unfold cells at h
  rw [List.getElem?_map] at h
  obtain ⟨b, hb, rfl⟩ := Option.map_eq_some_iff.1 h
  exact ⟨b, hb, rfl⟩
theorem cells_at {l : List UInt8} {j : Nat} {b : UInt8} (h : l[j]? = some b) : (cells l)[j]? = some (.int .u8 (b.toNat : Nat)) := by
  unfold cells
  rw [List.getElem?_map, h]
  rfl
/-- What the library says is owned. -/
theorem own_of {w : World} {B : Nat} {v : Value} {l : List UInt8} (h : w.ownsRow B 5 1 v l.length (cells l)) : Own8 w B v l := by
  rcases h.2 with ⟨rfl, h0⟩ | ⟨g, cap, cur, hv, hg, hrow, hn, hm, hcs, htake⟩
  · exact .inl ⟨rfl, List.eq_nil_of_length_eq_zero h0⟩
  · refine .inr ⟨g, cap, hv, hg, (Array.getElem?_eq_some_iff.1 hrow).1, hn, fun j b hj => ?_, fun j hj hj2 => ?_⟩
    · have hc := World.ownsRow.cells h (g := g) (by rw [hv]; rfl) j _ (cells_at hj)
      have hadd : (⟨g, 0, none⟩ : Addr).add j = ⟨g, j, none⟩ := by unfold Addr.add; split <;> simp_all
      rwa [hadd] at hc
    · refine ⟨?_, frozen_of_row w g j cur _ hrow⟩
      rw [cell_of_row w g j cur _ (0, 0) hrow]
      simp
      omega
theorem below_setCells {B : Nat} {a : World} (b : Nat) (hb : B ≤ b) : ∀ (vs : List Value) (o : Nat) (w : World), Below B a w → Below B a (w.setCells b o vs)
  | [], _, _, h => h
  | v :: r, o, w, h => below_setCells b hb r (o + 1) _ (h.setCell hb v)
theorem size_setCells (b : Nat) : ∀ (vs : List Value) (o : Nat) (w : World), (w.setCells b o vs).heap.size = w.heap.size
  | [], _, _ => rfl
  | v :: r, o, w => by rw [World.setCells, size_setCells b r]; simp
theorem info8 : ∃ i0, Tryd.prog.info? 5 = some i0 ∧ i0.zero = some (.int .u8 0) ∧ i0.size = 1 ∧ i0.bytes = 1 :=
  HR.info_parts (t := 5) (i := Tryd.prog.info? 5) (z := some (.int .u8 0)) (a := 1) (b := 1) (by kernel_rfl)
theorem run_app8 (w : World) (B : Nat) (v : Value) (l : List UInt8) (ty : TypeId) (h : Own8 w B v l) (hB : B ≤ w.heap.size) (ad : Addr) (m c : Nat) (news : List UInt8) (hn : news.length = m)
    (hc : ∀ j b, news[j]? = some b → w.cell? (ad.add j) = some (.int .u8 (b.toNat : Nat))) (b1 : l.length + m ≤ 140737488355328) :
    ∃ v' w', (Builtin.append_ #[70, 70] ty #[v, .slice (some ad) m c]).run Tryd.prog w = .ok v' w' ∧ Own8 w' B v' (l ++ news) ∧ Below B w w' := by
  obtain ⟨i0, hi, hz0, hz1, hz2⟩ := info8
  have hl : (cells news).length = m * 1 := by rw [cells_length, hn, Nat.mul_one]
  have hnews : ∀ j u, (cells news)[j]? = some u → w.cell? (ad.add j) = some u := fun j u hj => by
    obtain ⟨b, hb, rfl⟩ := bytes_get hj
    exact hc j b hb
  have h1 : ∀ u ∈ cells news, u.oneCell' = true := fun u hu => by
    obtain ⟨b, _, rfl⟩ := List.mem_map.1 hu
    rfl
  have grew : ∀ v' w', w'.ownsRow w.heap.size 5 1 v' (l.length + m) (cells l ++ cells news) → Own8 w' B v' (l ++ news) := fun v' w' ho => by
    have h2 : w'.ownsRow B 5 1 v' (l ++ news).length (cells (l ++ news)) := by
      rw [cells_app, List.length_append, hn]
      exact ⟨ho.1, ho.2.imp id fun ⟨g, cap, cur, e1, e2, e3⟩ => ⟨g, cap, cur, e1, Nat.le_trans hB e2, e3⟩⟩
    exact own_of h2
  rcases h with ⟨rfl, rfl⟩ | ⟨g, cap, rfl, hg, hlt, hcap, hcell, hsp⟩
  · obtain ⟨v', w', hr, h2, h3, _⟩ := run_append_own (P := Tryd.prog) w w.heap.size 70 ty 5 i0 (.int .u8 0) 1 1 Tryd.underlying70 hi hz0 hz1 hz2 rfl (by decide) (.slice none 0 0) 0 [] (World.ownsRow_nil w _ _ _) ad m c (cells news) hl hnews h1 (by unfold maxLen; simp at b1; omega) (by simp at b1; omega) (Nat.le_refl _)
    exact ⟨v', w', hr, grew v' w' h2, (Below.refl _ _).grown h3 hB (fun k hk => by cases hk)⟩
  · have hadd : ∀ j, (⟨g, 0, none⟩ : Addr).add j = ⟨g, j, none⟩ := fun j => by unfold Addr.add; split <;> simp_all
    by_cases hr : l.length + m ≤ cap
    · have hrun := run_append_room_cells (P := Tryd.prog) w 70 ty 5 i0 Tryd.underlying70 hi g 0 l.length cap ad m c (cells news) (by rw [hz1]; exact hl) hnews h1 hr
        (fun j hj => by rw [hz1]; rw [cells_length, hn] at hj; exact (hsp _ (by omega) (by omega)).1) (fun j hj => by rw [hz1]; rw [cells_length, hn] at hj; exact (hsp _ (by omega) (by omega)).2)
      rw [hz1, Nat.zero_add, Nat.mul_one] at hrun
      refine ⟨_, _, hrun, .inr ⟨g, cap, by rw [List.length_append, hn], hg, by rw [size_setCells]; exact hlt, by rw [List.length_append, hn]; exact hr, fun j b hj => ?_, fun j hj hj2 => ?_⟩, below_setCells g hg _ _ _ (Below.refl _ _)⟩
      · by_cases hjl : j < l.length
        · rw [World.cell?_setCells_out g _ _ _ _ (fun _ _ => Or.inl hjl)]
          rw [List.getElem?_append_left hjl] at hj
          exact hcell j b hj
        · rw [List.getElem?_append_right (by omega)] at hj
          have hjn : j - l.length < (cells news).length := by rw [cells_length]; exact (List.getElem?_eq_some_iff.1 hj).1
          have := World.cell?_setCells_in g (cells news) l.length w (fun i hi => (hsp _ (by omega) (by rw [cells_length, hn] at hi; omega)).1) (j - l.length) hjn
          rw [show l.length + (j - l.length) = j by omega] at this
          rw [this]
          have e := cells_at hj
          rw [List.getElem?_eq_getElem hjn] at e
          exact e
      · rw [List.length_append, hn] at hj
        rw [World.cell?_setCells_out g _ _ _ _ (fun _ _ => Or.inr (by rw [cells_length, hn]; exact hj)), World.frozen?_setCells]
        exact hsp j (by omega) hj2
    · obtain ⟨v', w', hrun, h2, h3⟩ := run_append_arg_grows (P := Tryd.prog) w 70 ty 5 i0 (.int .u8 0) 1 1 Tryd.underlying70 hi hz0 hz1 hz2 rfl (by decide) ⟨g, 0, none⟩ l.length cap (cells l) (by rw [cells_length, Nat.mul_one]) (fun j u hj => by
        obtain ⟨b, hb, rfl⟩ := bytes_get hj
        rw [hadd]
        exact hcell j b hb) ad m c (cells news) hl hnews (by omega) (by unfold maxLen; omega) (by omega)
      exact ⟨v', w', hrun, grew v' w' h2, (Below.refl _ _).grown h3 hB (fun k hk => by cases hk)⟩
theorem wp_app8 {w : World} {o : Oper} {a : Act} {K : Act → World → Prop} {Q : Exit → Act → World → Prop} (s x : Operand)
    (ho : o.op = .call { callee := .builtin .append, args := #[s, x], argTypes := #[70, 70] }) (B : Nat) (v : Value) (l : List UInt8) (hs : a.eval s = v) (h : Own8 w B v l) (hB : B ≤ w.heap.size)
    (ad : Addr) (m c : Nat) (news : List UInt8) (hx : a.eval x = .slice (some ad) m c) (hn : news.length = m) (hc : ∀ j b, news[j]? = some b → w.cell? (ad.add j) = some (.int .u8 (b.toNat : Nat))) (b1 : l.length + m ≤ 140737488355328)
    (hK : ∀ v' w', Own8 w' B v' (l ++ news) → Below B w w' → K (a.put o.dst v') w') : o.wp Tryd.prog a w K Q := by
  obtain ⟨v', w', hr, h2, h3⟩ := run_app8 w B v l o.type h hB ad m c news hn hc b1
  unfold Oper.wp execOp
  simp only [ho, resolve, invoke, builtin, Sem.run_bind, Sem.run_pure, Result.andThen_ok, List.map_toArray, List.map_cons, List.map_nil, hs, hx, hr]
  exact hK v' w' h2 h3
theorem wpList_app8 {w : World} {ops : Array Oper} {rest : List Oper} {o : Oper} {a : Act} {Q : Exit → Act → World → Prop} (hgd : o.guard = none) (s x : Operand)
    (ho : o.op = .call { callee := .builtin .append, args := #[s, x], argTypes := #[70, 70] }) (B : Nat) (v : Value) (l : List UInt8) (hs : a.eval s = v) (h : Own8 w B v l) (hB : B ≤ w.heap.size)
    (ad : Addr) (m c : Nat) (news : List UInt8) (hx : a.eval x = .slice (some ad) m c) (hn : news.length = m) (hc : ∀ j b, news[j]? = some b → w.cell? (ad.add j) = some (.int .u8 (b.toNat : Nat))) (b1 : l.length + m ≤ 140737488355328)
    (hK : ∀ v' w', Own8 w' B v' (l ++ news) → Below B w w' → wpList Tryd.prog ops Q rest (a.put o.dst v') w') : wpList Tryd.prog ops Q (o :: rest) a w :=
  wpList_plain hgd fun _ h' => wp_app8 s x ho B v l hs h hB ad m c news hx hn hc b1 fun v' w' h2 h3 => h' _ _ (hK v' w' h2 h3)
theorem step_app8 {w : World} {ops : Array Oper} {o : Oper} {a : Act} {K : Act → World → Prop} {Q : Exit → Act → World → Prop} {E : Prop} (hgd : o.guard = none) (s x : Operand)
    (ho : o.op = .call { callee := .builtin .append, args := #[s, x], argTypes := #[70, 70] }) (B : Nat) (v : Value) (l : List UInt8) (hs : a.eval s = v) (h : Own8 w B v l) (hB : B ≤ w.heap.size)
    (ad : Addr) (m c : Nat) (news : List UInt8) (hx : a.eval x = .slice (some ad) m c) (hn : news.length = m) (hc : ∀ j b, news[j]? = some b → w.cell? (ad.add j) = some (.int .u8 (b.toNat : Nat))) (b1 : l.length + m ≤ 140737488355328)
    (hK : ∀ v' w', Own8 w' B v' (l ++ news) → Below B w w' → K (a.put o.dst v') w') : if Region.wanted o (yielded ops a.tmps) = true then Oper.wp Tryd.prog o a w K Q else E := by
  have hw : Region.wanted o (yielded ops a.tmps) = true := by simp [Region.wanted, hgd]
  rw [if_pos hw]
  exact wp_app8 s x ho B v l hs h hB ad m c news hx hn hc b1 hK
/-- As a text. -/
theorem own_text {w : World} {B : Nat} {v : Value} {l : List UInt8} (h : Own8 w B v l) : (convert 70 9 v).run Tryd.prog w = .ok (.string ⟨l.toArray⟩) w := by
  rcases h with ⟨rfl, rfl⟩ | ⟨g, cap, rfl, _, _, _, hcell, _⟩
  · exact run_convert_nil_bytes w 70 9 5 0 Tryd.underlying70 Tryd.underlying5 Tryd.underlying9
  · exact run_convert_bytes_back (P := Tryd.prog) w 70 9 5 ⟨g, 0, none⟩ cap l Tryd.underlying70 Tryd.underlying5 Tryd.underlying9 (fun j hj => by
      have hadd : (⟨g, 0, none⟩ : Addr).add j = ⟨g, j, none⟩ := by unfold Addr.add; split <;> simp_all
      rw [hadd]
      exact hcell j _ (List.getElem?_eq_getElem hj))
/-- Out of a text. -/
theorem text_own (w : World) (s : ByteArray) : ∃ v w', (convert 9 70 (.string s)).run Tryd.prog w = .ok v w' ∧ Own8 w' w.heap.size v s.data.toList ∧ Below w.heap.size w w' := by
  have hr := run_bytes_of_string (P := Tryd.prog) w 9 70 5 s Tryd.underlying9 Tryd.underlying70 Tryd.underlying5
  have hge := grownCap_ge w s.size 0 5
  generalize grownCap w s.size 0 5 = cap at hr hge
  have hsz : (bytesRow s cap).size = cap := by
    have : s.data.size = s.size := rfl
    simp [bytesRow]
    omega
  rw [hsz] at hr
  have hrow : (w.drew.alloc (.cells (bytesRow s cap) 5 (cap, cap + 1))).heap[w.heap.size]? = some (.cells (bytesRow s cap) 5 (cap, cap + 1)) := heap_alloc_new w.drew _
  refine ⟨_, _, hr, .inr ⟨w.heap.size, cap, by rw [← Lib.size_eq], Nat.le_refl _, by simp, by rw [← Lib.size_eq]; exact hge, fun j b hj => ?_, fun j hj hj2 => ?_⟩, ((Below.refl _ _).drew).alloc (Nat.le_refl _) _⟩
  · rw [cell_of_row _ _ j _ _ _ hrow]
    have hjl : j < s.data.toList.length := (List.getElem?_eq_some_iff.1 hj).1
    unfold bytesRow
    rw [Array.getElem?_append_left (by simpa using hjl), Array.getElem?_map, ← Array.getElem?_toList, hj]
    rfl
  · constructor
    · rw [cell_of_row _ _ j _ _ _ hrow]
      simp
      omega
    · unfold World.frozen?
      simp only [hrow]
      simp
      omega
end HQ
end Go.Proofs.YtmpmmebmhffaeaaDoor
