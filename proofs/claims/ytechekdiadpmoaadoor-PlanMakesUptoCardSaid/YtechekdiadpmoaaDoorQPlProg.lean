/- Layer 13: the contract of Program. -/
import Derived.Test.YtechekdiadpmoaaDoorQPlBack
import Derived.Test.YtechekdiadpmoaaDoorQGlobMatch
set_option linter.all false
set_option maxRecDepth 100000
set_option maxHeartbeats 25600000
namespace Go.Proofs.YtechekdiadpmoaaDoor
open Go.RowKit Go.Lib Go.Shelf
namespace PB
open OM TM PL PM
attribute [local go_sem] Oper.semAt_some

/-- The name of the last program whose pattern matches; none: "". -/
def progF (p : List UInt8) : List Pm → List UInt8
  | [] => []
  | m :: r => if GP.matL m.2 p = true then m.1 else progF p r
def progL (M : List Pm) (p : List UInt8) : List UInt8 := progF p M.reverse
/-- A profile, as a value. -/
def profV (v0 v1 : Value) (mo : Option Addr) (n mc : Nat) (pr fo : Int) (ba fa : Bool) : Value := .agg #[v0, v1, .slice mo n mc, .int .i64 pr, .int .i64 fo, .bool ba, .bool fa]
theorem came_name (M : List Pm) (h : SmM M) (k : Nat) (hk : k < M.length) : (came M h k).2.1 = M.reverse[k]'(by simpa using hk) := by
  unfold came
  simp only
  rw [dif_pos (by omega)]
  simp
theorem progF_no (p : List UInt8) : ∀ l : List Pm, (∀ m ∈ l, GP.matL m.2 p = false) → progF p l = []
  | [], _ => rfl
  | m :: r, h => by
    unfold progF
    rw [h m (List.mem_cons_self ..), if_neg (by simp)]
    exact progF_no p r fun x hx => h x (List.mem_cons_of_mem _ hx)
theorem progF_at (p : List UInt8) (m : Pm) (b : List Pm) (hm : GP.matL m.2 p = true) : ∀ a : List Pm, (∀ m ∈ a, GP.matL m.2 p = false) → progF p (a ++ m :: b) = m.1
  | [], _ => by
    show progF p (m :: b) = _
    unfold progF
    rw [if_pos hm]
  | x :: r, h => by
    rw [List.cons_append]
    unfold progF
    rw [h x (List.mem_cons_self ..), if_neg (by simp)]
    exact progF_at p m b hm r fun x hx => h x (List.mem_cons_of_mem _ hx)
theorem mem_upto {α : Type} (f : Nat → α) {k i : Nat} (h : i < k) : f i ∈ upto f k := List.mem_map.2 ⟨i, List.mem_range.2 h, rfl⟩
theorem prog_none {M : List Pm} {h : SmM M} {p : List UInt8} (hn : ∀ x ∈ upto (came M h) M.length, GP.matL x.2.1.2 p = false) : progL M p = [] := by
  refine progF_no p _ fun m hm => ?_
  obtain ⟨i, hi, rfl⟩ := List.mem_iff_getElem.1 hm
  have hi' : i < M.length := by simpa using hi
  rw [← came_name M h i hi']
  exact hn _ (mem_upto _ hi')
theorem prog_some {M : List Pm} {h : SmM M} {p : List UInt8} {k : Nat} (hk : k < M.length) (hn : ∀ x ∈ upto (came M h) k, GP.matL x.2.1.2 p = false) (hy : GP.matL (came M h k).2.1.2 p = true) : progL M p = (came M h k).2.1.1 := by
  have hk' : k < M.reverse.length := by simpa using hk
  unfold progL
  have e : M.reverse = M.reverse.take k ++ M.reverse[k] :: M.reverse.drop (k + 1) := by
    rw [List.getElem_cons_drop, List.take_append_drop]
  rw [e, came_name M h k hk]
  rw [came_name M h k hk] at hy
  refine progF_at p _ _ hy _ fun m hm => ?_
  obtain ⟨i, hi, rfl⟩ := List.mem_iff_getElem.1 hm
  have hi' : i < k := by rw [List.length_take] at hi; omega
  rw [List.getElem_take, ← came_name M h i (by omega)]
  exact hn _ (mem_upto _ hi')
def Boxed2 (W : World) (B : Nat) (t : TypeId) (u v : Value) : Prop := W.heap[B]? = some (.cells #[u, v] t (0, 0))
theorem Boxed2.lt {W : World} {B : Nat} {t : TypeId} {u v : Value} (h : Boxed2 W B t u v) : B < W.heap.size := (Array.getElem?_eq_some_iff.1 h).1
theorem Boxed2.c0 {W : World} {B : Nat} {t : TypeId} {u v : Value} (h : Boxed2 W B t u v) : W.cell? ⟨B, 0, none⟩ = some u := by simp [World.cell?, show W.heap[B]? = _ from h]
theorem Boxed2.c1 {W : World} {B : Nat} {t : TypeId} {u v : Value} (h : Boxed2 W B t u v) : W.cell? ⟨B, 1, none⟩ = some v := by simp [World.cell?, show W.heap[B]? = _ from h]
theorem Boxed2.below {W W' : World} {B : Nat} {t : TypeId} {u v : Value} (h : Boxed2 W B t u v) (hb : Below W.heap.size W W') : Boxed2 W' B t u v := (hb.block B h.lt).trans h
theorem boxed_below {W W' : World} {B : Nat} {t : TypeId} {v : Value} (h : Boxed W B t v) (hb : Below W.heap.size W W') : Boxed W' B t v := (hb.block B h.lt).trans h
theorem Boxed2.keep {X Y : World} {B : Nat} {t : TypeId} {u v : Value} {row : Option Nat} (h : Boxed2 X B t u v) (hg : X.grownBy Y row) (hr : ∀ r, row = some r → ∃ o : Obj, X.heap[r]? = some o ∧ o.isCells = false) : Boxed2 Y B t u v :=
  (hg.block B h.lt (fun e => by
    obtain ⟨o, ho, hc⟩ := hr B e.symm
    rw [show X.heap[B]? = _ from h] at ho
    cases ho
    cases hc)).trans h
theorem keeps_below {B : Nat} {W W' : World} (h : Below W.heap.size W W') : KeepsFrom B W W' := ⟨h.size, fun k o _ hk _ => (h.block k (Array.getElem?_eq_some_iff.1 hk).1).trans hk⟩
set_option maxRecDepth 100000 in
set_option maxHeartbeats 4000000 in
theorem program_any (v0 v1 : Value) (mo : Option Addr) (mc : Nat) (M : List Pm) (pr fo : Int) (ba fa : Bool) (p : List UInt8) (w : World) (he : NF.Env w) (hM : ArgM w mo mc M) (hp : p.length ≤ 1048576) :
    Calls Tryd.prog 19 #[profV v0 v1 mo M.length mc pr fo ba fa, txt p] w fun e W' => e = .returned (txt (progL M p)) ∧ Below w.heap.size w W' := by
  refine (callsIn_wide (n := 6)).1 ?_
  have hro : Fence.wide.round = none := rfl
  have h1 : 1 ≤ 6 := by decide
  unfold profV
  have HE := Lib.hid he
  have hlen := hM.len
  have hsm : SmM M := hM.small
  have hlay := Lib.hid hM.lay
  obtain ⟨S, hS, hSd⟩ : ∃ S : ByteArray, txt p = .string S ∧ S.data.toList = p := ⟨_, rfl, rfl⟩
  have hSz : S.size ≤ maxLen := by rw [Lib.size_eq, hSd]; unfold maxLen; omega
  have hMt : Hid (∀ (m : ByteArray) (W : World), m.size ≤ maxLen → NF.Env W → Calls Tryd.prog 34 #[.string m, .string S] W fun e W' => e = .returned (.bool (GP.matL m.data.toList p)) ∧ Below W.heap.size W W') := Lib.hid (fun m W h1 h2 => by
    have := GH.match_any m S W h2 h1 hSz
    rw [hSd] at this
    exact this)
  rw [hS]
  clear he hM hp hSd
  refine callsIn_of_wp_marks Tryd.func19 rfl trivial ?_ hro
  simp only [Tryd.ntmps19, List.size_toArray, List.length_cons, List.length_nil, Nat.reduceAdd, Nat.reduceSub, Array.replicate_succ, Array.replicate_zero, List.push_toArray, List.append_toArray, List.nil_append, List.cons_append]
  gi_wp2_with (refine ⟨trivial, ?_⟩; gi_at_call 33; refine (back_in Fence.wide 5 trivial hro _ _ _ _).mono ?_; rintro e w' ⟨rfl, rfl⟩)
  obtain ⟨P7, hP7⟩ : ∃ P7 : Obj, Obj.cells #[v0, v1, Value.slice mo M.length mc, Value.int IntKind.i64 pr, Value.int IntKind.i64 fo, Value.bool ba, Value.bool fa] 39 = P7 := ⟨_, rfl⟩
  rw [hP7]
  have bP := ((Boxed.new (w.alloc P7) 9 (.string S)).alloc (.cells #[Value.string { data := #[] }] 9)).alloc (.cells #[.slice mo M.length mc] 37)
  have bR := (Boxed.new ((w.alloc P7).alloc (.cells #[.string S] 9)) 9 (.string { data := #[] })).alloc (.cells #[.slice mo M.length mc] 37)
  have bM := Boxed.new (((w.alloc P7).alloc (.cells #[.string S] 9)).alloc (.cells #[.string { data := #[] }] 9)) 37 (.slice mo M.length mc)
  simp only [World.size_alloc] at bP bR bM
  have hB0 : Below w.heap.size w ((((w.alloc P7).alloc (.cells #[.string S] 9)).alloc (.cells #[.string { data := #[] }] 9)).alloc (.cells #[.slice mo M.length mc] 37)) := ((((Below.refl _ w).alloc (Nat.le_refl _) _).alloc (by simp) _).alloc (by simp; omega) _).alloc (by simp; omega) _
  have hsz : ((((w.alloc P7).alloc (.cells #[.string S] 9)).alloc (.cells #[.string { data := #[] }] 9)).alloc (.cells #[.slice mo M.length mc] 37)).heap.size = w.heap.size + 4 := by simp
  obtain ⟨W0, hW0⟩ : ∃ W0, (((w.alloc P7).alloc (.cells #[.string S] 9)).alloc (.cells #[.string { data := #[] }] 9)).alloc (.cells #[.slice mo M.length mc] 37) = W0 := ⟨_, rfl⟩
  rw [hW0] at bP bR bM hB0 hsz ⊢
  clear hW0 hP7
  have hI0 : ∃ g o, (0 < M.length → mo = some ⟨g, o, none⟩ ∧ g < w.heap.size + 4) ∧ ∀ (i : Nat) (x : Pm), M[i]? = some x → W0.cell? ⟨g, o + i * 2, none⟩ = some (txt x.1) ∧ W0.cell? ⟨g, o + i * 2 + 1, none⟩ = some (txt x.2) := by
    by_cases h0 : 0 < M.length
    · obtain ⟨g, o, e, hg, hc⟩ := (hlay.out.below hB0) h0
      exact ⟨g, o, fun _ => ⟨e, by omega⟩, hc⟩
    · refine ⟨0, 0, fun h => absurd h h0, fun i x hx => ?_⟩
      have := (List.getElem?_eq_some_iff.1 hx).1
      omega
  refine wpIn_rangeFunc_ownH hro h1 (gf := 52) (lb := #[.pointer (some ⟨w.heap.size + 1 + 1 + 1, 0, none⟩)]) rfl trivial (enters_of Tryd.func52 (by kernel_rfl) rfl)
    (back_stops Fence.wide 5 trivial hro (by omega) (w.heap.size + 1 + 1 + 1) (w.heap.size + 4) mo mc M hsm hlen W0 (by omega) (by omega) bM.cell hI0) belowK_t (belowK_b (by omega)) (Below.refl _ _) (fun _ => rfl)
    (fun pre W => (Boxed W (w.heap.size + 1) 9 (.string S) ∧ Boxed W (w.heap.size + 1 + 1) 9 (.string { data := #[] })) ∧ (Below w.heap.size w W ∧ (w.heap.size + 4 ≤ W.heap.size ∧ ∀ x ∈ pre, GP.matL x.2.1.2 p = false)))
    (fun c pre W => (c = .ret ∧ ∃ ini last, pre = ini ++ [last] ∧ (∀ x ∈ ini, GP.matL x.2.1.2 p = false) ∧ GP.matL last.2.1.2 p = true ∧ Boxed W (w.heap.size + 1 + 1) 9 (txt last.2.1.1)) ∧ Below w.heap.size w W)
    (OwnFrom.and (OwnFrom.and (Own.from (boxed_own _ _ (fun _ => _)) _) (Own.from (boxed_own _ _ (fun _ => _)) _)) (OwnFrom.and (ownFrom_below (Nat.le_refl _) (by omega)) (fun s X Y row h hg _ => ⟨Nat.le_trans h.1 hg.size, h.2⟩)))
    (fun c => OwnFrom.and (fun s X Y row hs hg hr => by
      obtain ⟨e0, ini, last, e1, e2, e3, e4⟩ := hs
      exact ⟨e0, ini, last, e1, e2, e3, boxed_own _ _ (fun (_ : Unit) => txt last.2.1.1) () X Y row e4 hg (fun r e => (hr r e).2)⟩) (ownFrom_below (Nat.le_refl _) (by omega)))
    ⟨⟨bP, bR⟩, hB0, by omega, fun x hx => by cases hx⟩
    (fun x a' W => ∃ Bx, w.heap.size + 4 ≤ Bx ∧ Boxed2 W Bx 42 (txt x.2.1.1) (txt x.2.1.2) ∧ a' = { tmps := #[Value.agg #[v0, v1, Value.slice mo M.length mc, Value.int IntKind.i64 pr, Value.int IntKind.i64 fo, Value.bool ba, Value.bool fa], .string S, .pointer (some ⟨w.heap.size, 0, none⟩), .pointer (some ⟨w.heap.size + 1, 0, none⟩), .pointer (some ⟨w.heap.size + 1 + 1, 0, none⟩), undef, .pointer (some ⟨Bx, 0, none⟩), .pointer (some ⟨w.heap.size, 2, none⟩), .slice mo M.length mc, .func (.func 52) #[] #[.pointer (some ⟨w.heap.size + 1 + 1 + 1, 0, none⟩)], .int .i64 x.1, .agg #[txt x.2.1.1, txt x.2.1.2], undef, undef, undef, undef, undef, undef], defers := [] })
    (fun x a' _ X Y row hs hg hr => by
      obtain ⟨Bx, h1, h2, h3⟩ := hs
      exact ⟨Bx, h1, h2.keep hg (fun r e => (hr r e).2), h3⟩)
    ?assign ?body ?done ?stop
  case assign =>
    rintro l pre x W K ⟨⟨bP1, bR1⟩, hB1, hWs, hn1⟩ hK
    unfold encB
    obtain ⟨S1, hS1⟩ : ∃ S1, txt x.2.1.1 = .string S1 := ⟨_, rfl⟩
    obtain ⟨S2, hS2⟩ : ∃ S2, txt x.2.1.2 = .string S2 := ⟨_, rfl⟩
    rw [hS1, hS2] at hK ⊢
    gi_wp2
    exact hK _ _ ((KeepsOthers.alloc _ _).from _) ((Below.refl _ W).alloc hWs _) ⟨⟨bP1.alloc _, bR1.alloc _⟩, hB1.alloc hB1.size _, by simp; omega, hn1⟩ ⟨W.heap.size, hWs, World.alloc_heap_new W _, rfl⟩
  case body =>
    rintro l pre x a' W hl ⟨r, hr⟩ ⟨⟨bP1, bR1⟩, hB1, hWs, hn1⟩ ⟨Bx, hBx, bX, rfl⟩ hlt
    obtain ⟨S1, hS1⟩ : ∃ S1, txt x.2.1.1 = .string S1 := ⟨_, rfl⟩
    obtain ⟨S2, hS2, hS2d⟩ : ∃ S2 : ByteArray, txt x.2.1.2 = .string S2 ∧ S2.data.toList = x.2.1.2 := ⟨_, rfl, rfl⟩
    have CM := hMt.out S2 W (by rw [Lib.size_eq, hS2d]; have := x.2.2.2; unfold maxLen; omega) (HE.out.below hB1)
    rw [hS2d] at CM
    have HS1 := Lib.hid hS1
    rw [hS1, hS2] at bX ⊢
    have c0 := bX.c0
    have c1 := bX.c1
    have cP := bP1.cell
    have cR := bR1.cell
    have h1' : 1 ≤ 4 := by decide
    clear hS1 hS2 hS2d
    obtain ⟨b, hb⟩ : ∃ b, GP.matL x.2.1.2 p = b := ⟨_, rfl⟩
    rw [hb] at CM
    have HCM := Lib.hid CM
    clear CM
    cases b with
    | true =>
      gi_wp2_with (refine ⟨trivial, ?_⟩; gi_at_call 34; refine (CallsIn.inRound l (callsIn_wide.2 HCM.out)).mono ?_; rintro e W2 ⟨rfl, hb2⟩; have c02 := (bX.below hb2).c0; have cR2 := (boxed_below bR1 hb2).cell; have fR2 := (boxed_below bR1 hb2).frozen)
      exact ⟨(keeps_below hb2).trans ((KeepsOthers.setCell _ _ _).from _), ⟨rfl, pre, x, rfl, hn1, hb, by rw [HS1.out]; exact (boxed_below bR1 hb2).set _⟩, (hB1.trans (hb2.mono hB1.size)).setCell (p := ⟨w.heap.size + 1 + 1, 0, none⟩) (by show w.heap.size ≤ w.heap.size + 1 + 1; omega) _⟩
    | false =>
      gi_wp2_with (refine ⟨trivial, ?_⟩; gi_at_call 34; refine (CallsIn.inRound l (callsIn_wide.2 HCM.out)).mono ?_; rintro e W2 ⟨rfl, hb2⟩)
      exact ⟨keeps_below hb2, hb2.mono hWs, ⟨⟨boxed_below bP1 hb2, boxed_below bR1 hb2⟩, hB1.trans (hb2.mono hB1.size), Nat.le_trans hWs hb2.size, fun y hy => by
        rcases List.mem_append.1 hy with hy | hy
        · exact hn1 y hy
        · rw [List.mem_singleton.1 hy]; exact hb⟩⟩
  case done =>
    rintro D zs W hD rfl ⟨⟨bP1, bR1⟩, hB1, hWs, hn1⟩ hK
    have cR := bR1.cell
    have fR := bR1.frozen
    gi_wp2
    have hK' := (KeepsOthers.setCell W ⟨w.heap.size + 1 + 1, 0, none⟩ (.string { data := #[] })).same D _ hK rfl
    refine ⟨by simp, .inl ⟨_, _, rfl, run_takeDeferred hK', ?_⟩⟩
    have hc5 := cell_kept (World.cell?_setCell_same' W ⟨w.heap.size + 1 + 1, 0, none⟩ (.string { data := #[] }) (by rw [cR]; rfl)) (grownBy_putObj' _ D (.deferred none)) (fun r e => by cases e; exact ⟨_, hK', rfl⟩)
    refine ⟨.string { data := #[] }, ?_, by rw [prog_none hn1]; rfl, (hB1.setCell (p := ⟨w.heap.size + 1 + 1, 0, none⟩) (by show w.heap.size ≤ w.heap.size + 1 + 1; omega) _).trans (belowK_b (w := w) (Nat.le_refl _) _ D _ _ (by omega) hK' rfl rfl)⟩
    simp [results, Tryd.f19, go_sem, hc5]
  case stop =>
    rintro D c pre W hD ⟨k, hk, rfl⟩ ⟨⟨rfl, ini, last, e1, e2, e3, bR1⟩, hB1⟩ hK
    have cR := bR1.cell
    gi_wp2
    refine ⟨by simp, .inl ⟨_, _, rfl, run_takeDeferred hK, ?_⟩⟩
    have hc5 := cell_kept cR (grownBy_putObj' _ D (.deferred none)) (fun r e => by cases e; exact ⟨_, hK, rfl⟩)
    obtain ⟨k', rfl⟩ : ∃ k', k = k' + 1 := by
      cases k with
      | zero => simp [upto] at e1
      | succ k' => exact ⟨k', rfl⟩
    rw [upto_succ] at e1
    obtain ⟨rfl, e5⟩ := List.append_inj' e1 rfl
    obtain rfl : came M hsm k' = last := by simpa using e5
    refine ⟨txt (came M hsm k').2.1.1, ?_, by rw [prog_some (by omega) e2 e3], hB1.trans (belowK_b (w := w) (Nat.le_refl _) W D _ _ (by omega) hK rfl rfl)⟩
    simp [results, Tryd.f19, go_sem, hc5]
end PB
end Go.Proofs.YtechekdiadpmoaaDoor
