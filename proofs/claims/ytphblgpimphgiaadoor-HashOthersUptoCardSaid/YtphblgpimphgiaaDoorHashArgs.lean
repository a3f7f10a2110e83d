/- Layer 4: an array of bytes out of a statement's arguments. -/
import Derived.Test.YtphblgpimphgiaaDoorHashFrame
import Derived.Deep.Slices
namespace Go.Proofs.YtphblgpimphgiaaDoor
open Go.ChangeShapes Go.WideShapes Go.ChangeAt Go.RowKit Go.Lib
namespace HF

theorem open_bytes {H : Type} {enc : TypeId × Value → H} {W : World} {base n : Nat} {t : TypeId} {v : Value} {d : DataW H} {ps : List MemPlace} {sp : Nat → Bool} {held : Bool} (ht : Tryd.prog.underlying t = some (.array n 5)) (hc : Tryd.prog.cellsOf t = n)
    (hval : Value.okWide Tryd.prog W .any base t v) (hd : DataW.Trod enc Tryd.prog W 0 sp held t v d ps) :
    ∃ bs : List UInt8, bs.length = n ∧ v = .agg (bs.map fun b => Value.int .u8 (b.toNat : Nat)).toArray := by
  obtain ⟨cs, rfl, hsz, _⟩ : ∃ cs, v = .agg cs ∧ cs.size = Tryd.prog.cellsOf t ∧ Row.okWide Tryd.prog W .any base t cs := by
    simpa [Value.okWide, ht] using hval
  rw [hc] at hsz
  obtain ⟨fuel, hf⟩ := hd
  obtain ⟨xs, m, _, _, _, hxl, hel⟩ := DataW.trod_array ht hf
  have hch : ∀ i, i < n → ∃ b : UInt8, cs.toList[i]? = some (Value.int .u8 (b.toNat : Nat)) := fun i hi => by
    have h1 := hel i hi
    rw [show Tryd.prog.cellsOf 5 = 1 by kernel_rfl, Nat.mul_one] at h1
    obtain ⟨y, hy⟩ : ∃ y, xs[i]? = some y := ⟨xs[i]'(by omega), List.getElem?_eq_getElem (by omega)⟩
    rw [hy] at h1
    obtain ⟨z, e, _, hw⟩ := DataW.trod_int Tryd.underlying5 h1
    have hb := bounds_u8 hw
    refine ⟨UInt8.ofNat z.toNat, ?_⟩
    have h2 := congrArg (·[0]?) e
    simp only [List.getElem?_cons_zero] at h2
    rw [List.getElem?_take_of_lt (by decide), List.getElem?_drop, Nat.add_zero] at h2
    have hcs : (Value.agg cs).cells.toList = cs.toList := by simp [Value.cells]
    rw [hcs] at h2
    rw [h2]
    have hz : ((UInt8.ofNat z.toNat).toNat : Int) = z := by
      have : (UInt8.ofNat z.toNat).toNat = z.toNat := by simp; omega
      rw [this]
      omega
    rw [hz]
  obtain ⟨R, hR⟩ := Deep.choose_lt hch
  refine ⟨(List.range n).map R, by simp, ?_⟩
  congr 1
  apply Array.ext'
  apply List.ext_getElem?
  intro i
  by_cases hi : i < n
  · rw [hR i hi]
    simp [List.getElem?_range hi]
  · rw [List.getElem?_eq_none (by simp; omega), List.getElem?_eq_none (by simp; omega)]
end HF
end Go.Proofs.YtphblgpimphgiaaDoor
