/- Layer 2: the map of what was tried, keyed by pairs of places: how it lies, what a look at it and a store into it do. -/
import Derived.Test.YtechekdiadpmoaaDoorQGlobMem
import Derived.Maps.OwnSet
import Derived.WideKeyEntry
import Derived.DeepKeys4
import Derived.WalkKit
set_option linter.all false
set_option maxRecDepth 100000
set_option maxHeartbeats 25600000
namespace Go.Proofs.YtechekdiadpmoaaDoor
open Go.RowKit Go.Lib
namespace GH
open Go.MapKept Go.WideShapes
open Go.WideMaps (KeyLaw)
open Go.ChangeMaps (setBlock)

theorem laidOut : laidOutB Tryd.prog = true := by kernel_rfl
theorem law : KeyLaw Tryd.prog 145 := deep_law_laid laidOut (m := 2) (by omega) (of_decide_eq_true (by kernel_rfl)) (by kernel_rfl) (by kernel_rfl)
def keyV (p : Nat × Nat) : Value := .agg #[.int .i64 (p.1 : Nat), .int .i64 (p.2 : Nat)]
theorem keyV_inj {p q : Nat × Nat} (h : keyV p = keyV q) : p = q := by
  unfold keyV at h
  simp only [Value.agg.injEq] at h
  have h1 := congrArg (fun a => a.toList) h
  simp at h1
  exact Prod.ext (by omega) (by omega)
theorem key_ok (p : Nat × Nat) (h1 : p.1 ≤ 4096) (h2 : p.2 ≤ 4096) : ∃ l, keyOf Tryd.prog 145 (keyV p) = some l := by
  have w1 : (Lit.int .i64 (p.1 : Nat)).wf = true := WalkArith.wf_i64 (by omega)
  have w2 : (Lit.int .i64 (p.2 : Nat)).wf = true := WalkArith.wf_i64 (by omega)
  have hk : Tryd.prog.keyType 145 = true := by kernel_rfl
  have c1 : Tryd.prog.cellsOf 145 = 2 := by kernel_rfl
  have c2 : Tryd.prog.cellsOf 3 = 1 := by kernel_rfl
  have hs : ∃ n, Tryd.prog.types.size = n + 1 := ⟨Tryd.prog.types.size - 1, by have : 0 < Tryd.prog.types.size := of_decide_eq_true (by kernel_rfl); omega⟩
  obtain ⟨n, hn⟩ := hs
  unfold keyOf
  rw [Tryd.underlying145]
  simp only [hk, keyV, Value.formed, Tryd.underlying145, c1]
  rw [hn]
  have hcl : (Value.agg #[.int .i64 (p.1 : Nat), .int .i64 (p.2 : Nat)]).cells.toList = [.int .i64 (p.1 : Nat), .int .i64 (p.2 : Nat)] := rfl
  rw [hcl]
  unfold Program.keyLits
  rw [Tryd.underlying145]
  simp only [c1, c2]
  unfold Program.keyLits
  rw [Tryd.underlying3]
  simp [w1, w2, List.range, List.range.loop]
/-- Block b is a map in which just the pairs of D lie, each with a 1. -/
structure MOk (D : List (Nat × Nat)) (es : Array MapEntry) (clock : Nat) : Prop where
  stamped : Stamped es clock
  keys : es.toList.map (·.key) = D.map keyV
  vals : ∀ e ∈ es.toList, e.val = .int .i64 1
  small : ∀ p ∈ D, p.1 ≤ 4096 ∧ p.2 ≤ 4096
def MapIs (w : World) (b : Nat) (D : List (Nat × Nat)) : Prop := ∃ es clock, w.heap[b]? = some (.map es clock) ∧ MOk D es clock
theorem MapIs.lt {w : World} {b : Nat} {D : List (Nat × Nat)} (h : MapIs w b D) : b < w.heap.size := by
  obtain ⟨es, clock, hb, _⟩ := h
  exact (Array.getElem?_eq_some_iff.1 hb).1
theorem MapIs.same {w w' : World} {b : Nat} {D : List (Nat × Nat)} (h : MapIs w b D) (hb : w'.heap[b]? = w.heap[b]?) : MapIs w' b D := by
  obtain ⟨es, clock, hbk, hm⟩ := h
  exact ⟨es, clock, by rw [hb]; exact hbk, hm⟩
theorem MOk.entry {D : List (Nat × Nat)} {es : Array MapEntry} {clock : Nat} (h : MOk D es clock) : ∀ e ∈ es.toList, ∃ p ∈ D, e.key = keyV p := by
  intro e he
  have : e.key ∈ es.toList.map (·.key) := List.mem_map.2 ⟨e, he, rfl⟩
  rw [h.keys] at this
  obtain ⟨p, hp, e1⟩ := List.mem_map.1 this
  exact ⟨p, hp, e1.symm⟩
theorem MOk.reads {D : List (Nat × Nat)} {es : Array MapEntry} {clock : Nat} (h : MOk D es clock) : ∀ e ∈ es.toList, ∃ l, keyOf Tryd.prog 145 e.key = some l := by
  intro e he
  obtain ⟨p, hp, e1⟩ := h.entry e he
  rw [e1]
  exact key_ok p (h.small p hp).1 (h.small p hp).2
theorem MOk.has {D : List (Nat × Nat)} {es : Array MapEntry} {clock : Nat} (h : MOk D es clock) (p : Nat × Nat) (hp : p ∈ D) : ∃ e ∈ es.toList, e.key = keyV p := by
  have : keyV p ∈ es.toList.map (·.key) := by rw [h.keys]; exact List.mem_map.2 ⟨p, hp, rfl⟩
  obtain ⟨e, he, e1⟩ := List.mem_map.1 this
  exact ⟨e, he, e1⟩
theorem elemZero (w : World) : (zeroValue 3).run Tryd.prog w = .ok (.int .i64 0) w := by kernel_rfl
theorem look_run {w : World} {b : Nat} {D : List (Nat × Nat)} (h : MapIs w b D) (i j : Nat) (hi : i ≤ 4096) (hj : j ≤ 4096) :
    (Instr.lookup 122 (.map (some b)) (.agg #[.int .i64 i, .int .i64 j]) false).run Tryd.prog w = .ok (.int .i64 (if (i, j) ∈ D then 1 else 0)) w := by
  obtain ⟨es, clock, hb, hm⟩ := h
  obtain ⟨l, hl⟩ := key_ok (i, j) hi hj
  have hk : keyV (i, j) = .agg #[.int .i64 i, .int .i64 j] := rfl
  rw [hk] at hl
  rcases law.find w hl es.toList hm.reads with ⟨h1, h2⟩ | ⟨n, e, h1, h2, h3⟩
  · have hn : (i, j) ∉ D := fun hD => by
      obtain ⟨e, he, e1⟩ := hm.has _ hD
      exact h2 e he e1
    rw [if_neg hn]
    simp [Instr.lookup, run_underlying Tryd.underlying122, MapKept.run_getObj_map hb, law.check w es.isEmpty hl, h1, elemZero, Result.andThen]
  · have hy : (i, j) ∈ D := by
      obtain ⟨p, hp, e1⟩ := hm.entry e (List.mem_of_getElem? h2)
      rw [h3] at e1
      rw [keyV_inj (p := (i, j)) e1]
      exact hp
    have hv := hm.vals e (List.mem_of_getElem? h2)
    rw [if_pos hy]
    simp [Instr.lookup, run_underlying Tryd.underlying122, MapKept.run_getObj_map hb, law.check w es.isEmpty hl, h1, hv, Result.andThen]
/-- Where the pair isn't there: the entry that is laid for it, and the store into that. -/
theorem entry_run {w : World} {b : Nat} {D : List (Nat × Nat)} {es : Array MapEntry} {clock : Nat} (hb : w.heap[b]? = some (.map es clock)) (hm : MOk D es clock) (i j : Nat) (hi : i ≤ 4096) (hj : j ≤ 4096) (hn : (i, j) ∉ D) :
    (Instr.mapEntry 122 (.map (some b)) (.agg #[.int .i64 i, .int .i64 j])).run Tryd.prog w = .ok (.tuple #[.int .i64 0, .int .i64 clock]) (setBlock w b (.map (es.push ⟨keyV (i, j), .int .i64 0, clock⟩) (clock + 1))) := by
  obtain ⟨l, hl⟩ := key_ok (i, j) hi hj
  have hk : keyV (i, j) = .agg #[.int .i64 i, .int .i64 j] := rfl
  rw [hk] at hl
  rcases law.find w hl es.toList hm.reads with ⟨h1, h2⟩ | ⟨n, e, h1, h2, h3⟩
  · simp [Instr.mapEntry, run_underlying Tryd.underlying122, MapKept.run_getObj_map hb, law.check w false hl, h1, elemZero, MapKept.run_setObj_map _ hb, Result.andThen, setBlock, hk, goInt]
  · exfalso
    obtain ⟨p, hp, e1⟩ := hm.entry e (List.mem_of_getElem? h2)
    rw [h3] at e1
    apply hn
    rw [keyV_inj (p := (i, j)) e1]
    exact hp
theorem store_run {w : World} {b : Nat} {es : Array MapEntry} {clock : Nat} (hs : Stamped es clock) (key : Value) (v : Value) (hb : w.heap[b]? = some (.map (es.push ⟨key, .int .i64 0, clock⟩) (clock + 1))) :
    (Instr.entryStore 122 (.map (some b)) (.int .i64 clock) v).run Tryd.prog w = .ok () (setBlock w b (.map (es.push ⟨key, v, clock⟩) (clock + 1))) := by
  have hidx : (es.push ⟨key, .int .i64 0, clock⟩).findIdx? (fun e => ((e.born : Nat) : Int) == ((clock : Nat) : Int)) = some es.size := by
    rw [Go.WideElems.findIdx_arr]
    have := Go.WideElems.findIdx_born (l := (es.push ⟨key, .int .i64 0, clock⟩).toList) (j := es.size) (e0 := ⟨key, .int .i64 0, clock⟩) (by
      simp only [Array.toList_push, List.map_append, List.map_cons, List.map_nil]
      refine List.nodup_append.2 ⟨hs.2.1, by simp, fun a ha c hc e1 => ?_⟩
      simp only [List.mem_singleton] at hc
      obtain ⟨x, hx, rfl⟩ := List.mem_map.1 ha
      have := hs.1 x hx
      omega) (by simp)
    exact this
  have hmod : (es.push ⟨key, .int .i64 0, clock⟩).modify es.size (fun e => { e with val := v }) = es.push ⟨key, v, clock⟩ := by
    apply Array.ext'
    rw [Array.toList_modify, Array.toList_push, Array.toList_push, ← Array.length_toList, Go.WideElems.modify_last]
  simp [Instr.entryStore, MapKept.run_getObj_map hb, asInt, asIntOf, hidx, hmod, MapKept.run_setObj_map _ hb, Result.andThen, setBlock]
theorem MOk.push {D : List (Nat × Nat)} {es : Array MapEntry} {clock : Nat} (h : MOk D es clock) (i j : Nat) (hi : i ≤ 4096) (hj : j ≤ 4096) (hn : (i, j) ∉ D) :
    MOk (D ++ [(i, j)]) (es.push ⟨keyV (i, j), .int .i64 1, clock⟩) (clock + 1) := by
  obtain ⟨s1, s2, s3⟩ := h.stamped
  refine ⟨⟨?_, ?_, ?_⟩, ?_, ?_, ?_⟩
  · intro x hx
    simp only [Array.toList_push, List.mem_append, List.mem_singleton] at hx
    rcases hx with hx | rfl
    · have := s1 x hx; omega
    · simp
  · simp only [Array.toList_push, List.map_append, List.map_cons, List.map_nil]
    refine List.nodup_append.2 ⟨s2, by simp, fun a ha c hc e1 => ?_⟩
    simp only [List.mem_singleton] at hc
    obtain ⟨x, hx, rfl⟩ := List.mem_map.1 ha
    have := s1 x hx
    omega
  · simp only [Array.toList_push, List.map_append, List.map_cons, List.map_nil]
    refine List.nodup_append.2 ⟨s3, by simp, fun a ha c hc e1 => ?_⟩
    simp only [List.mem_singleton] at hc
    obtain ⟨x, hx, rfl⟩ := List.mem_map.1 ha
    obtain ⟨p, hp, e2⟩ := h.entry x hx
    rw [e1, hc] at e2
    exact hn (by rw [keyV_inj e2]; exact hp)
  · simp only [Array.toList_push, List.map_append, List.map_cons, List.map_nil, h.keys]
  · intro e he
    simp only [Array.toList_push, List.mem_append, List.mem_singleton] at he
    rcases he with he | rfl
    · exact h.vals e he
    · rfl
  · intro p hp
    simp only [List.mem_append, List.mem_singleton] at hp
    rcases hp with hp | rfl
    · exact h.small p hp
    · exact ⟨hi, hj⟩
end GH
end Go.Proofs.YtechekdiadpmoaaDoor
