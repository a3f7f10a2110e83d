/- Layer 13: awake; what is done at each item, over lists. -/
import Derived.Test.YtechekdiadpmoaaDoorQPlMake
import Derived.Laws.StructEq
set_option linter.all false
set_option maxRecDepth 100000
set_option maxHeartbeats 25600000
namespace Go.Proofs.YtechekdiadpmoaaDoor
open Go.RowKit Go.Lib Go.Maps Go.BigFrame
namespace PR
open OM TM PL PM PB

theorem str_eqL (a b : List UInt8) : ((⟨a.toArray⟩ : ByteArray).toList == (⟨b.toArray⟩ : ByteArray).toList) = decide (a = b) := by
  rw [Lib.toList_data, Lib.toList_data, Bool.eq_iff_iff]
  simp
theorem eq_ch (a b : Pi) (W : World) : (Op.equalIn 10000 51 (.agg #[txt a.1, .int .i64 a.2]) (.agg #[txt b.1, .int .i64 b.2])).run Tryd.prog W = .ok (decide (a = b)) W := by
  rw [run_equalIn_struct W 9999 51 _ _ (by kernel_rfl) (by kernel_rfl)]
  have names : (Tryd.prog.fieldsOf 51).toList.map (fun f => (f.name, f.type, f.offset)) = [("Path", 9, 0), ("Do", 3, 1)] := by kernel_rfl
  obtain ⟨f0, f1, e⟩ : ∃ f0 f1, (Tryd.prog.fieldsOf 51).toList = [f0, f1] := by
    have hl := congrArg List.length names
    rw [List.length_map] at hl
    match h : (Tryd.prog.fieldsOf 51).toList, hl with
    | [f0, f1], _ => exact ⟨f0, f1, rfl⟩
  rw [e] at names
  simp only [List.map_cons, List.map_nil, List.cons.injEq, Prod.mk.injEq, and_true] at names
  obtain ⟨⟨n0, t0, o0⟩, n1, t1, o1⟩ := names
  rw [e]
  unfold txt
  have s1 := str_eqL a.1 b.1
  obtain ⟨p, k⟩ := a
  obtain ⟨p', k'⟩ := b
  simp only at s1 ⊢
  simp [Op.eqFields, go_sem, n0, n1, t0, t1, o0, o1, Tryd.underlying9, Tryd.underlying3]
  by_cases h1 : p = p' <;> by_cases h2 : k = k' <;> simp [h1, h2]
theorem done_split (s : Say) (cs items : List Pi) (i : Nat) : doneL s cs items = doneL s cs (items.take i) ++ doneL s cs (items.drop i) := by
  unfold doneL
  rw [← List.map_append, ← List.filter_append, List.take_append_drop]
/-- What stands at the place that has been come to. -/
theorem done_at (s : Say) (cs items : List Pi) {i : Nat} {x : Pi} (hx : items[i]? = some x) (h1 : x.2 ≠ 1) : (doneL s cs items)[(doneL s cs (items.take i)).length]? = some (x.1, settleL s cs x) := by
  rw [done_split s cs items (i + 1), done_step s cs items hx, if_neg h1, List.append_assoc, List.getElem?_append_right (Nat.le_refl _), Nat.sub_self]
  rfl
theorem done_same (s : Say) (cs items : List Pi) {i : Nat} {x : Pi} (hx : items[i]? = some x) (h1 : x.2 = 1) : doneL s cs (items.take (i + 1)) = doneL s cs (items.take i) := by
  rw [done_step s cs items hx, if_pos h1, List.append_nil]
theorem done_more (s : Say) (cs items : List Pi) {i : Nat} {x : Pi} (hx : items[i]? = some x) (h1 : x.2 ≠ 1) : (doneL s cs (items.take (i + 1))).length = (doneL s cs (items.take i)).length + 1 := by
  rw [done_step s cs items hx, if_neg h1, List.length_append]
  rfl
theorem make_nil (s : Say) (items : List Pi) : makeL s items [] = match badI [] items with | some n => ([], n, 91) | none => (doneL s [] items, 0, 0) := rfl
def awI : List Pi := [([120], 2), ([121], 4)]
theorem make_aw : makeL ⟨0, 0, true, fun q => decide (progL [] q ≠ [])⟩ awI [] = ([([120], 1), ([121], 0)], 0, 0) := by decide +kernel
theorem cells4 {W : World} {B : Nat} {t : TypeId} {a b c d : Value} (h : W.heap[B]? = some (.cells #[a, b, c, d] t (0, 0))) : W.cell? ⟨B, 0, none⟩ = some a ∧ W.cell? ⟨B, 1, none⟩ = some b ∧ W.cell? ⟨B, 2, none⟩ = some c ∧ W.cell? ⟨B, 3, none⟩ = some d := by simp [World.cell?, h]
theorem aw_arg {W : World} {B : Nat} (h : W.heap[B]? = some (.cells #[.string ⟨#[120]⟩, .int .i64 2, .string ⟨#[121]⟩, .int .i64 4] 34 (0, 0))) : ArgP W (some ⟨B, 0, none⟩) 2 awI := by
  obtain ⟨c0, c1, c2, c3⟩ := cells4 h
  refine ⟨fun _ => ⟨B, 0, rfl, (Array.getElem?_eq_some_iff.1 h).1, fun i x hx => ?_⟩, (fun e => by cases e), by simp [awI], by simp [awI], fun x hx => ?_⟩
  · match i, hx with
    | 0, hx => simp [awI] at hx; subst hx; exact ⟨c0, c1⟩
    | 1, hx => simp [awI] at hx; subst hx; exact ⟨c2, c3⟩
  · simp [awI] at hx
    rcases hx with rfl | rfl <;> simp
set_option maxRecDepth 100000 in
set_option maxHeartbeats 6400000 in
theorem awake_any (w : World) (he : NF.Env w) : Calls Tryd.prog 15 #[] w fun r w' => r = .returned (.bool true) ∧ Below w.heap.size w w' := by
  have HE := Lib.hid he
  clear he
  go_enter Tryd.func15, Tryd.ntmps15
  repeat (first | go_skip | go_guarded | go_step | go_upon)
  have hr := heap_alloc_new w (.cells #[.string ⟨#[120]⟩, .int .i64 2, .string ⟨#[121]⟩, .int .i64 4] 34)
  have hb : Below w.heap.size w (w.alloc (.cells #[.string ⟨#[120]⟩, .int .i64 2, .string ⟨#[121]⟩, .int .i64 4] 34)) := (Below.refl _ _).alloc (Nat.le_refl _) _
  generalize w.alloc (.cells #[.string ⟨#[120]⟩, .int .i64 2, .string ⟨#[121]⟩, .int .i64 4] 34) = w1 at hr hb ⊢
  have B1 := Lib.hid hb
  have key := make_any none 0 0 none 0 0 none 0 [] 0 0 true false _ 2 awI none 0 [] w1 (HE.out.below hb) (ArgM.nil _) (aw_arg hr) (ArgP.nil _)
  rw [make_aw] at key
  clear hr hb
  refine (show Calls Tryd.prog 16 #[.slice (some ⟨w.heap.size, 0, none⟩) 2 2, .agg #[.slice none 0 0, .slice none 0 0, .slice none 0 0, .int .i64 0, .int .i64 0, .bool true, .bool false], .slice none 0 0] w1 _ from key).mono ?_
  rintro r w2 ⟨a2, c2, rfl, hl, _, hc2, hb2⟩
  simp only []
  have B2 := Lib.hid (B1.out.trans (hb2.mono B1.out.size))
  obtain ⟨g, o, rfl, hg, hc⟩ := hl (by simp)
  obtain ⟨d0, d1⟩ := hc 0 _ rfl
  obtain ⟨d2, d3⟩ := hc 1 _ rfl
  unfold txt at d0 d2
  have he := fun W => eq_ch ([120], 1) ([120], 1) W
  unfold txt at he
  simp only [decide_true] at he
  simp only [Nat.zero_mul, Nat.one_mul, Nat.add_zero] at d0 d1 d2 d3
  clear key hb2 hc hl hc2
  repeat (first | go_skip | go_guarded | go_step | go_upon)
  go_ret
  exact ⟨rfl, B2.out⟩
end PR
end Go.Proofs.YtechekdiadpmoaaDoor
