/- Layer 16: texts, numbers, frames out of the arguments. -/
import Derived.Test.YtdkfoakmjeealaaQMxSt
import Derived.Test.YtdkfoakmjeealaaQCodeFrame
import Derived.SliceStrings
import Derived.ChangeSlices
import Derived.Lib.SmallJoins
set_option linter.all false
set_option maxRecDepth 100000
set_option maxHeartbeats 25600000
namespace Go.Proofs.Ytdkfoakmjeealaa
open Go.ChangeShapes Go.WideShapes Go.ChangeAt Go.RowKit Go.Lib
namespace MX

theorem add_plain (b off k : Nat) : (⟨b, off, none⟩ : Addr).add k = ⟨b, off + k, none⟩ := by unfold Addr.add; split <;> simp_all
theorem bytes_id (s : ByteArray) : s = ⟨s.data.toList.toArray⟩ := by
  apply ByteArray.ext
  simp
theorem texts_arg {H : Type} {enc : TypeId × Value → H} {W : World} {spare : Nat → Bool} {held : Bool} {fuel len cap : Nat} {a0 : Option Addr} {x : DataW H × List MemPlace}
    (h : DataW.trod enc Try.prog W 0 spare held fuel 64 (Value.slice a0 len cap).cells.toList = some x) :
    ∃ ls : List (List UInt8), ls.length = len ∧ LayT W a0 ls ∧ (∀ t ∈ ls, t.length ≤ maxLen) ∧ len ≤ maxLen := by
  rcases open_strings Try.underlying64 Try.underlying9 (by kernel_rfl) h with ⟨hcs, hx⟩ | ⟨ad, len', cap', zs, hcs, _, hl, hm, hzl, hx, hcell, hwf⟩
  · simp [Value.cells] at hcs
    obtain ⟨rfl, rfl, rfl⟩ := hcs
    exact ⟨[], rfl, fun h => absurd h (by simp), fun n hn => absurd hn (by simp), by simp⟩
  · simp [Value.cells] at hcs
    obtain ⟨rfl, rfl, rfl⟩ := hcs
    have hlz : len ≤ zs.length := by rw [hzl]; split <;> omega
    have hlen : ((zs.take len).map (·.data.toList)).length = len := by rw [List.length_map, List.length_take]; omega
    refine ⟨(zs.take len).map (·.data.toList), hlen, fun h0 => ?_, fun t ht => ?_, by omega⟩
    · rw [hlen] at h0
      obtain ⟨b, off, spot⟩ := ad
      have c0 := hcell 0 (by omega)
      have hspot : spot = none := by simpa [Addr.add] using World.cell?_spot c0
      subst hspot
      refine ⟨b, off, rfl, (World.block_lt_of_cell? _ _ c0 :), fun k r hk => ?_⟩
      have hkl : k < len := by have := (List.getElem?_eq_some_iff.1 hk).1; omega
      have d0 := hcell k (by omega)
      rw [add_plain] at d0
      rw [List.getElem?_map, List.getElem?_take_of_lt hkl] at hk
      obtain ⟨z, hz, rfl⟩ := Option.map_eq_some_iff.1 hk
      rw [List.getD_eq_getElem?_getD, hz] at d0
      rw [d0]
      unfold txt
      rw [← bytes_id]
      rfl
    · obtain ⟨z, hz, rfl⟩ := List.mem_map.1 ht
      rw [← Lib.size_eq]
      exact hwf z (List.mem_of_mem_take hz)
theorem ints_arg {H : Type} {enc : TypeId × Value → H} {W : World} {spare : Nat → Bool} {held : Bool} {fuel len cap : Nat} {a0 : Option Addr} {x : DataW H × List MemPlace}
    (h : DataW.trod enc Try.prog W 0 spare held fuel 43 (Value.slice a0 len cap).cells.toList = some x) :
    ∃ ns : List Int, ns.length = len ∧ LayZ W a0 ns ∧ (∀ n ∈ ns, n ≤ 9223372036854775807) ∧ len ≤ maxLen := by
  rcases open_ints Try.underlying43 Try.underlying3 (by kernel_rfl) h with ⟨hcs, hx⟩ | ⟨ad, len', cap', zs, hcs, _, hl, hm, hzl, hx, hcell, hwf⟩
  · simp [Value.cells] at hcs
    obtain ⟨rfl, rfl, rfl⟩ := hcs
    exact ⟨[], rfl, fun h => absurd h (by simp), fun n hn => absurd hn (by simp), by simp⟩
  · simp [Value.cells] at hcs
    obtain ⟨rfl, rfl, rfl⟩ := hcs
    have hlz : len ≤ zs.length := by rw [hzl]; split <;> omega
    have hlen : (zs.take len).length = len := by rw [List.length_take]; omega
    refine ⟨zs.take len, hlen, fun h0 => ?_, fun n hn => ?_, by omega⟩
    · rw [hlen] at h0
      obtain ⟨b, off, spot⟩ := ad
      have c0 := hcell 0 (by omega)
      have hspot : spot = none := by simpa [Addr.add] using World.cell?_spot c0
      subst hspot
      refine ⟨b, off, rfl, (World.block_lt_of_cell? _ _ c0 :), fun k r hk => ?_⟩
      have hkl : k < len := by have := (List.getElem?_eq_some_iff.1 hk).1; omega
      have d0 := hcell k (by omega)
      rw [add_plain] at d0
      rw [List.getElem?_take_of_lt hkl] at hk
      rw [List.getD_eq_getElem?_getD, hk] at d0
      exact d0
    · have := hwf n (List.mem_of_mem_take hn)
      simp [Lit.wf, IntKind.min, IntKind.max, IntKind.signed, IntKind.bits] at this
      omega
set_option maxRecDepth 100000 in
theorem size_arg {H : Type} {enc : TypeId × Value → H} {W : World} {r : Reach} {base b0 : Nat} {spare : Nat → Bool} {held : Bool} {v : Value} {d : DataW H} {p : List MemPlace} (hv : Value.okWide Try.prog W r b0 66 v) (h : DataW.Trod enc Try.prog W base spare held 66 v d p) :
    ∃ (a b : Int), v = .agg #[.int .i64 a, .int .i64 b] ∧ -9223372036854775808 ≤ a ∧ a ≤ 9223372036854775807 ∧ -9223372036854775808 ≤ b ∧ b ≤ 9223372036854775807 := by
  obtain ⟨v0, v1, y0, y1, n, rfl, _, _, t0, t1⟩ := Go.Joins.open_agg2 (P := Try.prog) (t := 66) Try.underlying66 (by kernel_rfl) (by kernel_rfl) hv h
  obtain ⟨a, f0, _, w0⟩ := DataW.trod_int (by exact Try.underlying3) t0
  obtain ⟨b, f1, _, w1⟩ := DataW.trod_int (by exact Try.underlying3) t1
  simp only [List.cons.injEq, and_true] at f0 f1
  have ha := bounds_i64 w0
  have hb := bounds_i64 w1
  exact ⟨a, b, by rw [f0, f1], ha.1, ha.2, hb.1, hb.2⟩
end MX
end Go.Proofs.Ytdkfoakmjeealaa
