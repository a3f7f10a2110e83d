/- Layer 15: lists of texts in memory. -/
import Derived.Test.YtbklnijmalnnoaaDoorQLnSl
import Derived.Test.YtbklnijmalnnoaaDoorQOwn
set_option linter.all false
set_option maxRecDepth 100000
set_option maxHeartbeats 25600000
namespace Go.Proofs.YtbklnijmalnnoaaDoor
open Go.RowKit Go.Lib Go.BigFrame
namespace RQ
open HP HS RP OM

def txt (l : List UInt8) : Value := .string ⟨l.toArray⟩
theorem infoS : (Tryd.prog.info? 9).map (fun i => (i.zero, i.size, i.bytes)) = some (some (.string ByteArray.empty), 1, 16) := by kernel_rfl
end RQ
namespace RP
open HP HS
theorem take_snoc {α : Type} {l : List α} {k : Nat} {x : α} (h : l[k]? = some x) : l.take (k + 1) = l.take k ++ [x] := by
  rw [List.take_add_one, h]
  rfl
end RP
namespace RQ
open HP HS RP OM

/-- A slice of texts lies there. -/
def Lay (W : World) (ao : Option Addr) (ls : List (List UInt8)) : Prop :=
  0 < ls.length → ∃ g o, ao = some ⟨g, o, none⟩ ∧ g < W.heap.size ∧ ∀ (k : Nat) (t : List UInt8), ls[k]? = some t → W.cell? ⟨g, o + k, none⟩ = some (txt t)
theorem Lay.below {W W' : World} {ao : Option Addr} {ls : List (List UInt8)} (h : Lay W ao ls) (hb : Below W.heap.size W W') : Lay W' ao ls := fun h0 => by
  obtain ⟨g, o, e, hlt, hc⟩ := h h0
  exact ⟨g, o, e, Nat.lt_of_lt_of_le hlt hb.size, fun k t hk => (hb.cell (p := ⟨g, o + k, none⟩) hlt).trans (hc k t hk)⟩
end RQ
namespace RF
open HP HS RP OM RQ

/-- What is owned lies there. -/
theorem lay_of {w : World} {B : Nat} {v : Value} {ls : List (List UInt8)} (h : w.ownsRow B 9 1 v ls.length (ls.map txt)) : ∃ ao c, v = .slice ao ls.length c ∧ Lay w ao ls := by
  obtain ⟨ao, c, rfl, hx⟩ := owns_view h
  refine ⟨ao, c, rfl, fun h0 => ?_⟩
  obtain ⟨g, rfl, hg, _, hc⟩ := hx h0
  refine ⟨g, 0, rfl, hg, fun k t hk => ?_⟩
  have hkl := (List.getElem?_eq_some_iff.1 hk).1
  rw [Nat.zero_add, hc k (by omega), List.getElem?_map, hk]
  rfl
theorem Lay.take {W : World} {ao : Option Addr} {ls : List (List UInt8)} (h : Lay W ao ls) (k : Nat) : Lay W ao (ls.take k) := fun h0 => by
  rw [List.length_take] at h0
  obtain ⟨g, o, e, hlt, hc⟩ := h (by omega)
  refine ⟨g, o, e, hlt, fun j t hj => hc j t ?_⟩
  rw [List.getElem?_take] at hj
  by_cases hjk : j < k
  · rw [if_pos hjk] at hj; exact hj
  · rw [if_neg hjk] at hj; cases hj
set_option maxRecDepth 100000 in
set_option maxHeartbeats 1600000 in
theorem texts_same (a1 a2 : Option Addr) (c1 c2 : Nat) (ls : List (List UInt8)) (w : World) (h1 : Lay w a1 ls) (h2 : Lay w a2 ls) (hle : ls.length ≤ maxLen) :
    Calls Tryd.prog 13 #[.slice a1 ls.length c1, .slice a2 ls.length c2] w fun e w' => e = .returned (.bool true) ∧ Below w.heap.size w w' := by
  obtain ⟨n, hn⟩ : ∃ n, ls.length = n := ⟨_, rfl⟩
  have HN := Lib.hid hn
  have H1 := Lib.hid h1
  have H2 := Lib.hid h2
  unfold maxLen at hle
  rw [hn] at hle ⊢
  clear h1 h2 hn
  go_enter Tryd.func13, Tryd.ntmps13
  repeat (first | go_skip | go_guarded | go_step | go_upon)
  go_loopw [5] (fun s3 wr => ∃ k : Nat, s3 = .int .i64 k ∧ k ≤ n ∧ Below w.heap.size w wr) (fun s3 _ => n - (Go.RowKit.intOf s3).toNat)
  case atStart => exact ⟨0, rfl, Nat.zero_le _, Below.refl _ _⟩
  case round =>
    obtain ⟨k, rfl, hk, hb⟩ := hrel
    have HB := Lib.hid hb
    have HL1 := Lib.hid (H1.out.below hb)
    have HL2 := Lib.hid (H2.out.below hb)
    clear hb
    by_cases hlt : k < n
    · have hkz : (k : Int) < n := by omega
      obtain ⟨g1, o1, rfl, _, hc1⟩ := HL1.out (by rw [HN.out]; omega)
      obtain ⟨g2, o2, rfl, _, hc2⟩ := HL2.out (by rw [HN.out]; omega)
      obtain ⟨x, hx⟩ : ∃ x, ls[k]? = some x := ⟨ls[k]'(by rw [HN.out]; exact hlt), List.getElem?_eq_getElem _⟩
      have d1 := hc1 k x hx
      have d2 := hc2 k x hx
      unfold txt at d1 d2
      obtain ⟨T, hT⟩ : ∃ T : ByteArray, ⟨x.toArray⟩ = T := ⟨_, rfl⟩
      rw [hT] at d1 d2
      have hTT : (T.toList == T.toList) = true := by simp
      clear hc1 hc2 hx hT hlt
      repeat (first | go_skip | go_guarded | go_step | go_upon)
      go_quiet (fail)
      rename_i nq
      have HB3 : Hid (Below w.heap.size w (wr.drewN nq)) := Lib.hid ⟨HB.out.os, HB.out.tape, HB.out.output, HB.out.size, HB.out.block⟩
      generalize wr.drewN nq = w3 at HB3 ⊢
      repeat (first | go_skip | go_guarded | go_step | go_upon)
      exact ⟨⟨k + 1, by go_num, by omega, HB3.out⟩, by simp [Go.RowKit.intOf]; omega⟩
    · have hkz : ¬ (k : Int) < n := by omega
      clear hlt
      repeat (first | go_skip | go_guarded | go_step | go_upon)
      go_ret
      exact ⟨rfl, HB.out⟩
end RF
end Go.Proofs.YtbklnijmalnnoaaDoor
