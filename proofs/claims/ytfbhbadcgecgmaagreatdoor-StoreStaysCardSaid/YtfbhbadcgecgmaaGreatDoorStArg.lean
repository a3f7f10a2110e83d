/- Layer 10: a list of texts out of the arguments. -/
import Derived.Test.YtfbhbadcgecgmaaGreatDoorStSt
import Derived.Test.YtfbhbadcgecgmaaGreatDoorDkArg
import Derived.SliceStrings
namespace Go.Proofs.YtfbhbadcgecgmaaGreatDoor
open Go.ChangeShapes Go.WideShapes Go.ChangeAt Go.RowKit Go.Lib
namespace DA
open OM TP TM

set_option maxRecDepth 100000 in
theorem strs_arg {H : Type} {enc : TypeId × Value → H} {W : World} {spare : Nat → Bool} {held : Bool} {r : Reach} {b0 : Nat} {v : Value} {d : DataW H} {p : List MemPlace}
    (hv : Value.okWide Tryz.prog W r b0 48 v) (h0 : DataW.Trod enc Tryz.prog W 0 spare held 48 v d p) :
    ∃ (ao : Option Addr) (ts : List ByteArray) (cap : Nat), v = .slice ao ts.length cap ∧ DG.StrsA W ao ts ∧ ts.length ≤ maxLen := by
  obtain ⟨a0, len, cap, rfl⟩ := okWide_slice Tryz.underlying48 hv
  obtain ⟨fuel, h⟩ := h0
  rcases open_strings Tryz.underlying48 Tryz.underlying9 (by kernel_rfl) h with ⟨hcs, hx⟩ | ⟨ad, len', cap', zs, hcs, _, hl, hm, hzl, hx, hcell, hwf⟩
  · simp [Value.cells] at hcs
    obtain ⟨rfl, rfl, rfl⟩ := hcs
    exact ⟨none, [], 0, rfl, fun h => absurd rfl h, by simp⟩
  · simp [Value.cells] at hcs
    obtain ⟨rfl, rfl, rfl⟩ := hcs
    have hlz : len ≤ zs.length := by rw [hzl]; split <;> omega
    have hlen : (zs.take len).length = len := by rw [List.length_take]; omega
    refine ⟨some ad, zs.take len, cap, by rw [hlen], fun h0 => ?_, by rw [hlen]; omega⟩
    have h0 : 0 < len := by
      rcases Nat.eq_zero_or_pos len with h | h
      · rw [h] at h0; exact absurd rfl h0
      · exact h
    obtain ⟨b, off, spot⟩ := ad
    have c0 := hcell 0 (by omega)
    have hspot : spot = none := by simpa [Addr.add] using World.cell?_spot c0
    subst hspot
    refine ⟨b, off, rfl, (World.block_lt_of_cell? _ _ c0 :), fun k r hk => ?_⟩
    have hkl : k < len := by have := (List.getElem?_eq_some_iff.1 hk).1; omega
    have d0 := hcell k (by omega)
    rw [add_plain] at d0
    rw [List.getElem?_take_of_lt hkl] at hk
    rw [List.getD_eq_getElem?_getD, hk] at d0
    exact d0
end DA
end Go.Proofs.YtfbhbadcgecgmaaGreatDoor
