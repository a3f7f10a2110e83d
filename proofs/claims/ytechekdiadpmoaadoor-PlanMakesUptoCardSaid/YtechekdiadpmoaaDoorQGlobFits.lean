/- Layer 2: the contract of fits: whether elements match a whole name. -/
import Derived.Test.YtechekdiadpmoaaDoorQGlobTake
import Derived.OwnWalk
set_option linter.all false
set_option maxRecDepth 100000
set_option maxHeartbeats 25600000
namespace Go.Proofs.YtechekdiadpmoaaDoor
open Go.RowKit Go.Lib
namespace GF
open GP GM

def runN (els : List El) (R : List Bool) : List Nat → List Bool
  | [] => R
  | r :: rs => runN els (passN els (takeN els R r 0) els.length) rs
def startN (els : List El) : List Bool := passN els (true :: List.replicate els.length false) els.length
def fitsN (els : List El) (rs : List Nat) : Bool := bo (runN els (startN els) rs) els.length
theorem Rowed.then {B g n c : Nat} {w w1 w2 : World} {R R' : List Bool} (h : Rowed B g n c w R w1) (h2 : Rowed B g n c w1 R' w2) : Rowed B g n c w R' w2 :=
  ⟨h2.len, h2.own, h.below.trans h2.below, h.others.trans h2.others⟩
theorem Rowed.iterAt {B g n c : Nat} {w w1 : World} {R : List Bool} (h : Rowed B g n c w R w1) {k : Nat} {s : ByteArray} {pos : Nat} (hk : w1.heap[k]? = some (.stringIter s pos)) (hB : B ≤ k) (hw : w.heap.size ≤ k) (pos' : Nat) : Rowed B g n c w R (w1.iterAt k s pos') := by
  have hgk : g ≠ k := by
    rintro rfl
    obtain ⟨c', fz, hc⟩ := owns_kind h.own g rfl
    rw [hk] at hc
    cases hc
  refine ⟨h.len, ⟨h.own.1, ?_⟩, Lib.below_iterAt h.below hB s pos', ?_⟩
  · rcases h.own.2 with ⟨hn, _⟩ | ⟨g', cap, cur, hv, hb', hgg, rest⟩
    · cases hn
    · simp only [Value.slice.injEq, Option.some.injEq, Addr.mk.injEq, and_true, true_and] at hv
      obtain ⟨rfl, rfl⟩ := hv
      exact .inr ⟨g, c, cur, rfl, hb', by rw [Lib.iterAt_other w1 k g s pos' hgk]; exact hgg, rest⟩
  · intro j o hj hb ho
    have h1 := h.others j o hj hb ho
    by_cases e : j = k
    · subst e
      have hlt : j < w.heap.size := (Array.getElem?_eq_some_iff.1 hj).1
      exact absurd hlt (by omega)
    · rw [Lib.iterAt_other w1 k j s pos' e]; exact h1
theorem fresh_cells (n : Nat) : (madeCells (Value.bool false).cells ((n + 1) * 1)).toList = boCells (false :: List.replicate n false) := by
  have h1 : (madeCells (Value.bool false).cells ((n + 1) * 1)).toList = List.replicate (n + 1) (.bool false) := by
    refine List.eq_replicate_iff.2 ⟨by simp [size_madeCells], fun b hb => ?_⟩
    unfold madeCells at hb
    simp only [Array.toList_map, List.mem_map] at hb
    obtain ⟨j, _, rfl⟩ := hb
    have : (Value.bool false).cells = #[.bool false] := rfl
    rw [this]
    have h0 : j % (#[Value.bool false] : Array Value).size = 0 := by simp [Nat.mod_one]
    rw [h0]
    rfl
  rw [h1]
  unfold boCells
  rw [List.map_cons, List.map_replicate]
  rfl
set_option maxHeartbeats 1600000 in
theorem fits_any (ve : Value) (els : List El) (s : ByteArray) (w : World) (he : LEls w ve els) (hel : els.length ≤ 400) (hs : s.size ≤ maxLen) :
    Calls Tryd.prog 97 #[ve, .string s] w fun x w' => x = .returned (.bool (fitsN els (runes s.data.toList))) ∧ Below w.heap.size w w' := by
  obtain ⟨hml, ao, ce, rfl⟩ := he.val
  have infoB : (Tryd.prog.info? 4).map (fun i => (i.zero, i.size, i.bytes)) = some (some (.bool false), 1, 1) := by kernel_rfl
  obtain ⟨i0, hi, hz0, hz1, hz2⟩ := info_parts infoB
  have He := Lib.hid he
  clear he infoB
  unfold maxLen at hs hml
  go_enter Tryd.func97, Tryd.ntmps97
  go_wp2_with (first | (at_make; refine wpList_make_full _ rfl _ _ 169 rfl w.heap.size 4 i0 (.bool false) 1 Tryd.underlying169 hi hz0 hz1 .i64 .i64 _ _ (els.length + 1) rfl rfl (by omega) (by omega) (by rw [hz2]; omega) (by unfold maxLen; omega) (Nat.le_refl _) ?_; intro w1 hown1 hg1; have hc0 : w1.cell? ⟨w.heap.size, 0, none⟩ = some (.bool false) := (by rw [hown1.cellAt 0 (by omega), fresh_cells]; rfl); have hf0 : w1.frozen? ⟨w.heap.size, 0, none⟩ = false := hown1.frozenAt 0))
  have hB1 : w.heap.size < w1.heap.size := (hown1.lt w.heap.size rfl).2
  rw [fresh_cells] at hown1
  have r0 : Rowed w.heap.size w.heap.size (els.length + 1) (els.length + 1) w (false :: List.replicate els.length false) w1 :=
    ⟨by simp, hown1, (Below.refl _ _).grown hg1 (Nat.le_refl _) (fun k hk => by cases hk), (OthersKept.refl _ _ _).grown hg1 (fun g hk => by cases hk)⟩
  have r1 := r0.set 0 true
  rw [List.set_cons_zero] at r1
  have cP := passMany_any (.slice ao els.length ce) els w.heap.size w.heap.size (els.length + 1) (true :: List.replicate els.length false) _ (He.out.kept (T := 4) (by decide) (by decide) r1.others) (by simp) (by unfold maxLen; omega) r1.own
  have R1 := Lib.hid r1
  clear r0 r1 hown1 hg1 hc0 hf0 hi hz0 hz1 hz2
  refine cP.mono ?_
  rintro x w2 ⟨rfl, r2⟩
  have R2 := Lib.hid (R1.out.then r2)
  have hs2 : w.heap.size < w2.heap.size := by have := r2.below.size; simp [World.setCell] at this; omega
  have HB2 := Lib.hid hs2
  clear r2 cP
  go_wp2_with fail
  go_loopw [] (fun wr => ∃ (pos : Nat) (R : List Bool), Rowed w.heap.size w.heap.size (els.length + 1) (els.length + 1) w R wr ∧ wr.heap[w2.heap.size]? = some (.stringIter s pos) ∧ bo (runN els R (runes (s.data.toList.drop pos))) els.length = fitsN els (runes s.data.toList)) (fun wr => s.size - wr.iterPos w2.heap.size)
  case atStart =>
    refine ⟨0, startN els, (R2.out.alloc (by omega) _), World.iter_heap w2 s 0, by rw [List.drop_zero]; rfl⟩
  case round =>
    obtain ⟨pos, R, hr, hit, hfin⟩ := hrel
    have Hr := Lib.hid hr
    have Hfin := Lib.hid hfin
    have hsz : w2.heap.size < wr.heap.size := (Array.getElem?_eq_some_iff.1 hit).1
    have hRl : Hid (R.length = els.length + 1) := Lib.hid hr.len
    clear hr hfin
    by_cases hp : pos < s.size
    · have hnx : ∀ ty, (Instr.next (.pointer (some ⟨w2.heap.size, 0, none⟩)) true ty).run Tryd.prog wr = _ := fun ty => Lib.run_next_any_at wr w2.heap.size s pos ty hit hp
      have hwd := Lib.width_pos s pos
      have hdl := decode_le s pos
      have hne : s.data.toList.drop pos ≠ [] := by
        intro e
        have := congrArg List.length e
        rw [List.length_drop, ← Lib.size_eq] at this
        simp at this
        omega
      have hst := runes_step hne
      rw [Lib.decodeL_drop, List.drop_drop] at hst
      have Hst := Lib.hid hst
      have r3 := Hr.out.iterAt hit (by omega) (by omega) (pos + (Utf8.decode s pos).2)
      have hit2 := Lib.iterAt_heap wr w2.heap.size s pos (pos + (Utf8.decode s pos).2) hit
      have cT := takeRune_any (.slice ao els.length ce) els w.heap.size w.heap.size (els.length + 1) R (Utf8.decode s pos).1 _ (He.out.kept (T := 4) (by decide) (by decide) r3.others) r3.len (by unfold maxLen; omega) r3.own
      have R3 := Lib.hid r3
      clear r3 hst hne
      go_wp2_with fail
      refine cT.mono ?_
      rintro x w3 ⟨rfl, r4⟩
      have R4 := Lib.hid (R3.out.then r4)
      have hit3 : w3.heap[w2.heap.size]? = some (.stringIter s (pos + (Utf8.decode s pos).2)) := r4.others _ _ hit2 (by simp) (fun c fz h => by cases h)
      have cQ := passMany_any (.slice ao els.length ce) els w.heap.size w.heap.size (els.length + 1) _ w3 (He.out.kept (T := 4) (by decide) (by decide) R4.out.others) R4.out.len (by unfold maxLen; omega) R4.out.own
      clear r4 cT hnx
      go_wp2_with fail
      refine cQ.mono ?_
      rintro x w4 ⟨rfl, r5⟩
      have R5 := Lib.hid (R4.out.then r5)
      have hit4 : w4.heap[w2.heap.size]? = some (.stringIter s (pos + (Utf8.decode s pos).2)) := r5.others _ _ hit3 (by simp) (fun c fz h => by cases h)
      clear r5 cQ
      go_wp2_with fail
      go_roundw
      case rel =>
        refine ⟨pos + (Utf8.decode s pos).2, _, R5.out, hit4, ?_⟩
        have := Hfin.out
        rw [Hst.out] at this
        exact this
      case measure =>
        simp only [World.iterPos, hit, hit4]
        omega
    · have hnx : ∀ ty, (Instr.next (.pointer (some ⟨w2.heap.size, 0, none⟩)) true ty).run Tryd.prog wr = _ := fun ty => Lib.run_next_end_at wr w2.heap.size s pos ty hit hp
      have hend : s.data.toList.drop pos = [] := List.drop_eq_nil_of_le (by rw [← Lib.size_eq]; omega)
      have HF : Hid (bo R els.length = fitsN els (runes s.data.toList)) := Lib.hid (by have := Hfin.out; rw [hend] at this; exact this)
      have hcf : wr.cell? ⟨w.heap.size, els.length, none⟩ = some (.bool (bo R els.length)) := by
        rw [Hr.out.own.cellAt els.length (by omega)]
        exact bo_cell (by have := hRl.out; omega)
      clear hend
      generalize bo R els.length = X at HF hcf
      go_wp2_with fail
      go_ret
      exact ⟨by rw [HF.out]; rfl, Hr.out.below⟩
end GF
end Go.Proofs.YtechekdiadpmoaaDoor
