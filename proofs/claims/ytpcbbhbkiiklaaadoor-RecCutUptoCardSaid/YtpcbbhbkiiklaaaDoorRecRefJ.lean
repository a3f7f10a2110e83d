/- Layer 5: the contract of the document's Join. -/
import Derived.Test.YtpcbbhbkiiklaaaDoorRecRefA
namespace Go.Proofs.YtpcbbhbkiiklaaaDoor
open Go.RowKit Go.Lib Go.BigFrame
namespace RP
open HP HS
/-- What is wrong with a list of payloads, and what text they make. -/
def joinE (ls : List (List UInt8)) : Nat := if ∀ p ∈ ls, p.length ≤ MaxP then 0 else 32
def joinT (ls : List (List UInt8)) : List UInt8 := if ∀ p ∈ ls, p.length ≤ MaxP then joined ls else []
theorem joined_snoc (a : List (List UInt8)) (p : List UInt8) : joined (a ++ [p]) = joined a ++ packL p := by
  unfold joined
  rw [List.flatMap_append, List.flatMap_singleton]
theorem take_snoc {α : Type} {l : List α} {k : Nat} {x : α} (h : l[k]? = some x) : l.take (k + 1) = l.take k ++ [x] := by
  rw [List.take_add_one, h]
  rfl
theorem joined_take (ls : List (List UInt8)) (k : Nat) : (joined (ls.take k)).length ≤ (joined ls).length := by
  conv => rhs; rw [← List.take_append_drop k ls]
  unfold joined
  rw [List.flatMap_append, List.length_append]
  omega
theorem joined_len (ls : List (List UInt8)) : 8 * ls.length ≤ (joined ls).length := by
  induction ls with
  | nil => simp
  | cons p ls ih =>
    show _ ≤ (packL p ++ joined ls).length
    rw [List.length_append, pack_len, List.length_cons]
    omega
theorem len_mem {ls : List (List UInt8)} {p : List UInt8} (h : p ∈ ls) : p.length + 8 ≤ (joined ls).length := by
  induction ls with
  | nil => simp at h
  | cons q ls ih =>
    have e : (joined (q :: ls)).length = q.length + 8 + (joined ls).length := by
      show (packL q ++ joined ls).length = _
      rw [List.length_append, pack_len]
    rw [e]
    rcases List.mem_cons.1 h with rfl | h
    · omega
    · have := ih h; omega
end RP
namespace RQ
open HP HS RP OM

/-- A slice of texts lies there. -/
def Lay (W : World) (ao : Option Addr) (ls : List (List UInt8)) : Prop :=
  0 < ls.length → ∃ g o, ao = some ⟨g, o, none⟩ ∧ g < W.heap.size ∧ ∀ (k : Nat) (t : List UInt8), ls[k]? = some t → W.cell? ⟨g, o + k, none⟩ = some (txt t)
theorem Lay.below {W W' : World} {ao : Option Addr} {ls : List (List UInt8)} (h : Lay W ao ls) (hb : Below W.heap.size W W') : Lay W' ao ls := fun h0 => by
  obtain ⟨g, o, e, hlt, hc⟩ := h h0
  exact ⟨g, o, e, Nat.lt_of_lt_of_le hlt hb.size, fun k t hk => (hb.cell (p := ⟨g, o + k, none⟩) hlt).trans (hc k t hk)⟩
def joinV (ls : List (List UInt8)) : Ending := .returned (.tuple #[txt (joinT ls), .int .i64 (joinE ls : Nat)])
theorem joinV_ok {ls : List (List UInt8)} (h : ∀ p ∈ ls, p.length ≤ MaxP) : joinV ls = .returned (.tuple #[txt (joined ls), .int .i64 0]) := by
  unfold joinV joinT joinE
  rw [if_pos h, if_pos h]
  rfl
theorem joinV_bad {ls : List (List UInt8)} {p : List UInt8} (hp : p ∈ ls) (h : MaxP < p.length) : joinV ls = .returned (.tuple #[txt [], .int .i64 32]) := by
  have : ¬ ∀ p ∈ ls, p.length ≤ MaxP := fun e => by have := e p hp; omega
  unfold joinV joinT joinE
  rw [if_neg this, if_neg this]
  rfl
/-- The loop's state: the first k are joined. -/
def RJoin (ls : List (List UInt8)) (w : World) (s4 s5 _s6 _s7 : Value) (wr : World) : Prop :=
  ∃ k : Nat, s4 = txt (joined (ls.take k)) ∧ s5 = .int .i64 k ∧ k ≤ ls.length ∧ (∀ p ∈ ls.take k, p.length ≤ MaxP) ∧ Below w.heap.size w wr
set_option maxRecDepth 100000 in
set_option maxHeartbeats 1600000 in
theorem rjoin_any (CC : CrcOf) (ao : Option Addr) (cap : Nat) (ls : List (List UInt8)) (w : World) (h : Lay w ao ls) (hm : (joined ls).length ≤ 1073741824) :
    Calls Tryd.prog 10 #[.slice ao ls.length cap] w fun r w' => r = joinV ls ∧ Below w.heap.size w w' := by
  obtain ⟨n, hn⟩ : ∃ n, ls.length = n := ⟨_, rfl⟩
  have HN := Lib.hid hn
  have HL := Lib.hid h
  have HM := Lib.hid hm
  have hnm : n ≤ 1073741824 := by have := joined_len ls; omega
  rw [hn]
  clear h hn hm
  go_enter Tryd.func10, Tryd.ntmps10
  go_wp2
  go_loopw [4, 5, 6, 7] (RJoin ls w) (fun _ s5 _ _ _ => n - (Go.RowKit.intOf s5).toNat)
  case atStart => exact ⟨0, rfl, rfl, Nat.zero_le _, fun p hp => by simp at hp, Below.refl _ _⟩
  case round =>
    obtain ⟨k, rfl, rfl, hk, ha, hb⟩ := hrel
    rw [HN.out] at hk
    have HA := Lib.hid ha
    have HB := Lib.hid hb
    have HT := Lib.hid (HL.out.below hb)
    have hbs := hb.size
    clear ha hb
    obtain ⟨J, hJ⟩ : ∃ J, joined (ls.take k) = J := ⟨_, rfl⟩
    unfold txt
    obtain ⟨TJ, hTJ⟩ : ∃ T : ByteArray, ⟨(joined (ls.take k)).toArray⟩ = T := ⟨_, rfl⟩
    rw [hTJ]
    by_cases hlt : k < n
    · have hkz : (k : Int) < n := by omega
      obtain ⟨g, o, rfl, _, hc⟩ := HT.out (by rw [HN.out]; omega)
      obtain ⟨x, hx⟩ : ∃ x, ls[k]? = some x := ⟨ls[k]'(by rw [HN.out]; exact hlt), List.getElem?_eq_getElem _⟩
      have c0 := hc k x hx
      have hmem := List.mem_of_getElem? hx
      have hxl := len_mem hmem
      have hjt := joined_take ls (k + 1)
      have ht := take_snoc hx
      rw [ht, joined_snoc, hJ, List.length_append] at hjt
      have cP := fun W => rpack_any CC x W (by have := HM.out; unfold maxLen; omega)
      unfold txt at c0
      obtain ⟨TX, hTX⟩ : ∃ T : ByteArray, ⟨x.toArray⟩ = T := ⟨_, rfl⟩
      rw [hTX] at c0 cP
      by_cases hxm : x.length ≤ MaxP
      · have e1 : packT x = packL x := by unfold packT; rw [if_pos hxm]
        have e2 : packE x = 0 := by unfold packE; rw [if_pos hxm]
        rw [e1, e2] at cP
        obtain ⟨TP, hTP⟩ : ∃ T : ByteArray, ⟨(packL x).toArray⟩ = T := ⟨_, rfl⟩
        rw [hTP] at cP
        obtain ⟨TK, hTK⟩ : ∃ T : ByteArray, ⟨(joined (ls.take (k + 1))).toArray⟩ = T := ⟨_, rfl⟩
        have hcat : TJ ++ TP = TK := by rw [← hTJ, ← hTP, ← hTK, ht, joined_snoc]; exact bytes_app _ _
        have hcl : TJ.size + TP.size ≤ 9223372036854775807 := by rw [← hTJ, ← hTP, Lib.size_eq, Lib.size_eq, hJ]; have := HM.out; simp; omega
        have HA2 : Hid (∀ p ∈ ls.take (k + 1), p.length ≤ MaxP) := Lib.hid (by
          rw [ht]
          intro p hp
          rcases List.mem_append.1 hp with hp | hp
          · exact HA.out p hp
          · simp at hp; rw [hp]; exact hxm)
        have CP := Lib.hid cP
        have HTK := Lib.hid hTK
        clear cP hTP hTK hTX hTJ hJ hjt ht hxl hmem hx hc hxm e1 e2
        go_wp2_with (go_at_call 12; refine (CP.out _).mono ?_; rintro r w1 ⟨rfl, hb1⟩; have HB1 := Lib.hid (Below.trans HB.out (hb1.mono hbs)); clear hb1)
        go_roundw
        case rel => exact ⟨k + 1, by unfold txt; rw [HTK.out], by go_num, by rw [HN.out]; omega, HA2.out, HB1.out⟩
        case measure => simp [Go.RowKit.intOf]; omega
      · have e1 : packT x = [] := by unfold packT; rw [if_neg hxm]
        have e2 : packE x = 32 := by unfold packE; rw [if_neg hxm]
        have HV := Lib.hid (joinV_bad hmem (by omega))
        rw [e1, e2] at cP
        have CP := Lib.hid cP
        clear cP hTX hTJ hJ hjt ht hxl hmem hx hc hxm e1 e2
        go_wp2_with (go_at_call 12; refine (CP.out _).mono ?_; rintro r w1 ⟨rfl, hb1⟩; have HB1 := Lib.hid (Below.trans HB.out (hb1.mono hbs)); clear hb1)
        go_ret2
        exact ⟨by rw [HV.out]; rfl, HB1.out⟩
    · have hkz : ¬ (k : Int) < n := by omega
      have ht : ls.take k = ls := List.take_of_length_le (by rw [HN.out]; omega)
      have HV : Hid (joinV ls = .returned (.tuple #[txt (joined ls), .int .i64 0])) := Lib.hid (joinV_ok (by have := HA.out; rw [ht] at this; exact this))
      have HTJ : Hid ((⟨(joined ls).toArray⟩ : ByteArray) = TJ) := Lib.hid (by rw [← hTJ, ht])
      clear ht hJ hTJ hlt
      go_wp2
      go_ret2
      exact ⟨by rw [HV.out]; unfold txt; rw [HTJ.out]; rfl, HB.out⟩
end RQ
end Go.Proofs.YtpcbbhbkiiklaaaDoor
