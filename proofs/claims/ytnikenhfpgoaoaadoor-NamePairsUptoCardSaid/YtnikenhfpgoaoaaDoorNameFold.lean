/- Layer 1: the contract of name.Fold: the letters A to Z as a to z, every other byte as it is; for every text. -/
import Derived.Test.YtnikenhfpgoaoaaDoorNameOrd
import Derived.Test.YtnikenhfpgoaoaaDoorNameFn
import Derived.Laws.IdiomStrings
namespace Go.Proofs.YtnikenhfpgoaoaaDoor
open Go.RowKit Go.Lib
namespace NFo

def fold1 (c : UInt8) : UInt8 := if 65 ≤ c.toNat ∧ c.toNat ≤ 90 then c + 32 else c
def foldL (l : List UInt8) : List UInt8 := l.map fold1
theorem fold1_hit {c : UInt8} (h1 : 65 ≤ c.toNat) (h2 : c.toNat ≤ 90) : (fold1 c).toNat = c.toNat + 32 := by
  unfold fold1
  rw [if_pos ⟨h1, h2⟩, UInt8.toNat_add]
  show (c.toNat + 32) % 256 = _
  omega
theorem fold1_miss {c : UInt8} (h : ¬ (65 ≤ c.toNat ∧ c.toNat ≤ 90)) : fold1 c = c := by unfold fold1; rw [if_neg h]
/-- the byte at place j behind k rounds -/
def at' (s : ByteArray) (k j : Nat) : UInt8 := if j < k then fold1 (s.data.toList.getD j 0) else s.data.toList.getD j 0
structure Row (s : ByteArray) (b k : Nat) (w : World) : Prop where
  cells : ∀ j, j < s.size → w.cell? ⟨b, j, none⟩ = some (.int .u8 (at' s k j).toNat)
  free : ∀ j, j < s.size → w.frozen? ⟨b, j, none⟩ = false
theorem getD_eq (s : ByteArray) (k : Nat) (h : k < s.size) : s.data.toList.getD k 0 = s[k] := by
  have := Lib.data_getElem? s k h
  rw [List.getD_eq_getElem?_getD, this]; rfl
theorem Row.keep {s : ByteArray} {b k : Nat} {w : World} (h : Row s b k w) (hk : k < s.size) (hf : ¬ (65 ≤ s[k].toNat ∧ s[k].toNat ≤ 90)) : Row s b (k + 1) w := by
  refine ⟨fun j hj => ?_, h.free⟩
  rw [h.cells j hj]
  by_cases hjk : j = k
  · subst hjk
    unfold at'
    rw [if_neg (by omega), if_pos (by omega), getD_eq s j hk, fold1_miss hf]
  · have : at' s (k + 1) j = at' s k j := by
      unfold at'
      by_cases h1 : j < k
      · rw [if_pos h1, if_pos (by omega)]
      · rw [if_neg h1, if_neg (by omega)]
    rw [this]
theorem Row.put {s : ByteArray} {b k : Nat} {w : World} (h : Row s b k w) (hk : k < s.size) (h1 : 65 ≤ s[k].toNat) (h2 : s[k].toNat ≤ 90) : Row s b (k + 1) (w.setCell ⟨b, k, none⟩ (.int .u8 ((s[k].toNat : Int) + 32))) := by
  refine ⟨fun j hj => ?_, fun j hj => by rw [World.frozen?_setCell]; exact h.free j hj⟩
  by_cases hjk : j = k
  · subst hjk
    rw [World.cell?_setCell_same' w ⟨b, j, none⟩ _ (by rw [h.cells j hj]; rfl)]
    unfold at'
    rw [if_pos (by omega), getD_eq s j hk, fold1_hit h1 h2]
    rfl
  · have hne : (⟨b, k, none⟩ : Addr) ≠ ⟨b, j, none⟩ := by intro e; injection e with _ e; exact hjk e.symm
    rw [World.cell?_setCell_other (h := hne), h.cells j hj]
    have : at' s (k + 1) j = at' s k j := by
      unfold at'
      by_cases h1 : j < k
      · rw [if_pos h1, if_pos (by omega)]
      · rw [if_neg h1, if_neg (by omega)]
    rw [this]
theorem Row.start (s : ByteArray) (w : World) (cap : Nat) (lo hi : Nat) (hlo : s.size ≤ lo) : Row s w.heap.size 0 (w.alloc (.cells (bytesRow s cap) 5 (lo, hi))) := by
  have hsz : s.data.size = s.size := rfl
  refine ⟨fun j hj => ?_, fun j hj => ?_⟩
  · rw [World.cell?_alloc_mark, bytesRow_at s cap j (by omega)]
    unfold at'
    rw [if_neg (by omega), getD_eq s j hj]
    rfl
  · rw [World.frozen?_alloc_mark, decide_eq_false (by omega)]
    rfl
theorem Row.drew {s : ByteArray} {b k : Nat} {w : World} (h : Row s b k w) : Row s b k w.drew := ⟨h.cells, h.free⟩
def FoldPost (s : ByteArray) (w : World) (e : Ending) (w' : World) : Prop := ∃ t : ByteArray, e = .returned (.string t) ∧ t.data.toList = foldL s.data.toList ∧ Below w.heap.size w w'
theorem size_row (s : ByteArray) (cap : Nat) : s.size ≤ (bytesRow s cap).size := by
  unfold bytesRow
  have : s.data.size = s.size := rfl
  simp only [Array.size_append, Array.size_map]
  omega
set_option maxHeartbeats 1600000 in
theorem fold_any (s : ByteArray) (w : World) (hs : s.size ≤ maxLen) :
    Calls Tryd.prog 17 #[.string s] w (FoldPost s w) := by
  unfold maxLen at hs
  obtain ⟨cap, hcap⟩ : ∃ cap, grownCap w s.size 0 5 = cap := ⟨_, rfl⟩
  have hrun := run_bytes_of_string (P := Tryd.prog) w 9 38 5 s Tryd.underlying9 Tryd.underlying38 Tryd.underlying5
  rw [hcap] at hrun
  have hlo := size_row s cap
  have Hst := Lib.hid (Row.start s w cap (bytesRow s cap).size ((bytesRow s cap).size + 1) hlo)
  generalize (bytesRow s cap).size = lo at hrun hlo Hst
  have Hb0 := Lib.hid ((Below.refl w.heap.size w).alloc (Nat.le_refl _) (.cells (bytesRow s cap) 5 (lo, lo + 1)))
  clear hcap
  generalize hW : w.alloc (.cells (bytesRow s cap) 5 (lo, lo + 1)) = W0 at Hst Hb0
  have hW2 : w.drew.alloc (.cells (bytesRow s cap) 5 (lo, lo + 1)) = W0.drew := by rw [← hW]; rfl
  rw [hW2] at hrun
  clear hW hW2
  go_enter Tryd.func17, Tryd.ntmps17
  go_wp2
  go_loopw [10] (fun i wr => ∃ k : Nat, k ≤ s.size ∧ i = .int .i64 k ∧ Row s w.heap.size k wr ∧ Below w.heap.size w wr) (fun i _ => s.size - (Go.RowKit.intOf i).toNat)
  case atStart => exact ⟨0, Nat.zero_le _, rfl, Hst.out.drew, Hb0.out.drew⟩
  case round =>
    obtain ⟨k, hk, rfl, hrow, hb⟩ := hrel
    have HR := Lib.hid hrow
    have HB := Lib.hid hb
    clear hrow hb hrun
    by_cases hlt : k < s.size
    · have hz : (k : Int) < s.size := by omega
      have hcell : wr.cell? ⟨w.heap.size, k, none⟩ = some (.int .u8 ((s[k].toNat : Nat) : Int)) := by
        rw [HR.out.cells k hlt]
        unfold at'
        rw [if_neg (by omega), getD_eq s k hlt]
      have hfree := HR.out.free k hlt
      have h256 := NO.u8_lt s[k]
      have h00 : (0 : Int) ≤ ((s[k].toNat : Nat) : Int) := by omega
      by_cases hf : 65 ≤ s[k].toNat ∧ s[k].toNat ≤ 90
      · obtain ⟨hf1, hf2⟩ := hf
        have hi1 : (65 : Int) ≤ ((s[k].toNat : Nat) : Int) := by omega
        have hi2 : ((s[k].toNat : Nat) : Int) ≤ 90 := by omega
        have HR2 : Hid (Row s w.heap.size (k + 1) (wr.setCell ⟨w.heap.size, k, none⟩ (.int .u8 ((s[k].toNat : Int) - 65 + 97)))) := Lib.hid (by
          have e : ((s[k].toNat : Nat) : Int) - 65 + 97 = (s[k].toNat : Int) + 32 := by omega
          rw [e]
          exact HR.out.put hlt hf1 hf2)
        go_wp2
        go_roundw
        case rel => exact ⟨k + 1, by omega, by go_num, HR2.out, HB.out.setCell (by simp) _⟩
        case measure => simp [Go.RowKit.intOf]; omega
      · have HR2 := Lib.hid (HR.out.keep hlt hf)
        by_cases hf1 : 65 ≤ s[k].toNat
        · have hi1 : (65 : Int) ≤ ((s[k].toNat : Nat) : Int) := by omega
          have hi2 : ¬ ((s[k].toNat : Nat) : Int) ≤ 90 := by omega
          clear hf
          go_wp2
          go_roundw
          case rel => exact ⟨k + 1, by omega, by go_num, HR2.out, HB.out⟩
          case measure => simp [Go.RowKit.intOf]; omega
        · have hi1 : ¬ (65 : Int) ≤ ((s[k].toNat : Nat) : Int) := by omega
          clear hf
          go_wp2
          go_roundw
          case rel => exact ⟨k + 1, by omega, by go_num, HR2.out, HB.out⟩
          case measure => simp [Go.RowKit.intOf]; omega
    · have hz : ¬ (k : Int) < s.size := by omega
      have hk2 : k = s.size := by omega
      have hconv : (convert 38 9 (.slice (some ⟨w.heap.size, 0, none⟩) s.size cap)).run Tryd.prog wr = .ok (.string ⟨(foldL s.data.toList).toArray⟩) wr := by
        have hlen : (foldL s.data.toList).length = s.size := by unfold foldL; rw [List.length_map, ← Lib.size_eq]
        have := run_convert_bytes_back (P := Tryd.prog) wr 38 9 5 ⟨w.heap.size, 0, none⟩ cap (foldL s.data.toList) Tryd.underlying38 Tryd.underlying5 Tryd.underlying9 (fun j hj => by
          have hj2 : j < s.size := by omega
          have hc := HR.out.cells j hj2
          have e : (⟨w.heap.size, 0, none⟩ : Addr).add j = ⟨w.heap.size, j, none⟩ := by
            simp only [Addr.add]
            split <;> simp_all
          rw [e, hc]
          have hj3 : j < s.data.toList.length := by rw [← Lib.size_eq]; exact hj2
          have e2 : (foldL s.data.toList)[j] = fold1 (s.data.toList[j]'hj3) := by simp [foldL]
          have e3 : s.data.toList.getD j 0 = s.data.toList[j]'hj3 := by rw [List.getD_eq_getElem?_getD, List.getElem?_eq_getElem hj3]; rfl
          rw [e2]
          unfold at'
          rw [if_pos (by omega), e3])
        rw [hlen] at this
        exact this
      clear hk2
      go_wp2
      go_ret
      exact ⟨_, rfl, rfl, HB.out⟩
end NFo
end Go.Proofs.YtnikenhfpgoaoaaDoor
