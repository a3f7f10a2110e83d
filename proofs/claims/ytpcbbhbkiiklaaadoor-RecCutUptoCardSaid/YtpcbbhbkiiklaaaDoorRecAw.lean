/- Layer 5: two lists of the same texts; the statements' own guard 'awake'. -/
import Derived.Test.YtpcbbhbkiiklaaaDoorRecJn
namespace Go.Proofs.YtpcbbhbkiiklaaaDoor
open Go.RowKit Go.Lib Go.BigFrame
namespace RF
open HP HS RP OM RQ HR
open HQ (Env crc_any)

/-- What is owned lies there. -/
theorem lay_of {w : World} {B : Nat} {v : Value} {ls : List (List UInt8)} (h : w.ownsRow B 9 1 v ls.length (ls.map txt)) : ∃ ao c, v = .slice ao ls.length c ∧ Lay w ao ls := by
  obtain ⟨ao, c, rfl, hx⟩ := owns_view h
  refine ⟨ao, c, rfl, fun h0 => ?_⟩
  obtain ⟨g, rfl, hg, _, hc⟩ := hx h0
  refine ⟨g, 0, rfl, hg, fun k t hk => ?_⟩
  have hkl := (List.getElem?_eq_some_iff.1 hk).1
  rw [Nat.zero_add, hc k (by omega), List.getElem?_map, hk]
  rfl
theorem Lay.take {W : World} {ao : Option Addr} {ls : List (List UInt8)} (h : Lay W ao ls) (k : Nat) : Lay W ao (ls.take k) := fun h0 => by
  rw [List.length_take] at h0
  obtain ⟨g, o, e, hlt, hc⟩ := h (by omega)
  refine ⟨g, o, e, hlt, fun j t hj => hc j t ?_⟩
  rw [List.getElem?_take] at hj
  by_cases hjk : j < k
  · rw [if_pos hjk] at hj; exact hj
  · rw [if_neg hjk] at hj; cases hj
set_option maxRecDepth 100000 in
set_option maxHeartbeats 1600000 in
theorem texts_same (a1 a2 : Option Addr) (c1 c2 : Nat) (ls : List (List UInt8)) (w : World) (h1 : Lay w a1 ls) (h2 : Lay w a2 ls) (hle : ls.length ≤ maxLen) :
    Calls Tryd.prog 19 #[.slice a1 ls.length c1, .slice a2 ls.length c2] w fun e w' => e = .returned (.bool true) ∧ Below w.heap.size w w' := by
  obtain ⟨n, hn⟩ : ∃ n, ls.length = n := ⟨_, rfl⟩
  have HN := Lib.hid hn
  have H1 := Lib.hid h1
  have H2 := Lib.hid h2
  unfold maxLen at hle
  rw [hn] at hle ⊢
  clear h1 h2 hn
  go_enter Tryd.func19, Tryd.ntmps19
  repeat (first | go_skip | go_guarded | go_step | go_upon)
  go_loopw [5] (fun s3 wr => ∃ k : Nat, s3 = .int .i64 k ∧ k ≤ n ∧ Below w.heap.size w wr) (fun s3 _ => n - (Go.RowKit.intOf s3).toNat)
  case atStart => exact ⟨0, rfl, Nat.zero_le _, Below.refl _ _⟩
  case round =>
    obtain ⟨k, rfl, hk, hb⟩ := hrel
    have HB := Lib.hid hb
    have HL1 := Lib.hid (H1.out.below hb)
    have HL2 := Lib.hid (H2.out.below hb)
    clear hb
    by_cases hlt : k < n
    · have hkz : (k : Int) < n := by omega
      obtain ⟨g1, o1, rfl, _, hc1⟩ := HL1.out (by rw [HN.out]; omega)
      obtain ⟨g2, o2, rfl, _, hc2⟩ := HL2.out (by rw [HN.out]; omega)
      obtain ⟨x, hx⟩ : ∃ x, ls[k]? = some x := ⟨ls[k]'(by rw [HN.out]; exact hlt), List.getElem?_eq_getElem _⟩
      have d1 := hc1 k x hx
      have d2 := hc2 k x hx
      unfold txt at d1 d2
      obtain ⟨T, hT⟩ : ∃ T : ByteArray, ⟨x.toArray⟩ = T := ⟨_, rfl⟩
      rw [hT] at d1 d2
      have hTT : (T.toList == T.toList) = true := by simp
      clear hc1 hc2 hx hT hlt
      repeat (first | go_skip | go_guarded | go_step | go_upon)
      go_quiet (fail)
      rename_i nq
      have HB3 : Hid (Below w.heap.size w (wr.drewN nq)) := Lib.hid ⟨HB.out.os, HB.out.tape, HB.out.output, HB.out.size, HB.out.block⟩
      generalize wr.drewN nq = w3 at HB3 ⊢
      repeat (first | go_skip | go_guarded | go_step | go_upon)
      exact ⟨⟨k + 1, by go_num, by omega, HB3.out⟩, by simp [Go.RowKit.intOf]; omega⟩
    · have hkz : ¬ (k : Int) < n := by omega
      clear hlt
      repeat (first | go_skip | go_guarded | go_step | go_upon)
      go_ret
      exact ⟨rfl, HB.out⟩
theorem one_of {s p : List UInt8} (h : nextL s = (0, p, [])) : oneL s = (0, p) := by
  unfold oneL
  rw [h]
theorem one_pack (p : List UInt8) (h : p.length ≤ MaxP) : oneL (packL p) = (0, p) := one_of (by
  have hn := next_pack p [] h
  rwa [List.append_nil] at hn)
set_option maxRecDepth 100000 in
set_option maxHeartbeats 1600000 in
theorem awake_any (w : World) (he : Env w) : Calls Tryd.prog 8 #[] w fun e w' => e = .returned (.bool true) ∧ Below w.heap.size w w' := by
  obtain ⟨A, hA⟩ : ∃ A : List UInt8, A = [97] := ⟨_, rfl⟩
  have hAl : A.length = 1 := by rw [hA]; rfl
  have hAm : A.length ≤ MaxP := by rw [hAl]; decide
  have hTA : (⟨A.toArray⟩ : ByteArray) = ⟨#[97]⟩ := by rw [hA]
  have cP := pack_any A w he (by rw [hAl]; decide)
  have cO := fun W (hW : Env W) => one_any (packL A) W hW (by rw [pack_len, hAl]; decide)
  have h1 : packT A = packL A := by unfold packT; rw [if_pos hAm]
  have h2 : packE A = 0 := by unfold packE; rw [if_pos hAm]
  unfold packV at cP
  unfold oneV at cO
  rw [h1, h2] at cP
  rw [one_pack A hAm] at cO
  unfold txt at cP cO
  obtain ⟨T, hT⟩ : ∃ T : ByteArray, ⟨(packL A).toArray⟩ = T := ⟨_, rfl⟩
  have hTs : T.size = 9 := by rw [← hT, Lib.size_eq]; show (packL A).length = 9; rw [pack_len, hAl]
  rw [hT, hTA] at cP
  rw [hT] at cO
  obtain ⟨TA, hTB⟩ : ∃ T : ByteArray, ⟨A.toArray⟩ = T := ⟨_, rfl⟩
  simp only [hTB] at cO
  have hTAe : (TA.toList == [97]) = true := by
    rw [Lib.toList_data, ← hTB]
    show (A == [97]) = true
    rw [hA]
    rfl
  clear hTA hAm hAl hA hTB
  have CP := Lib.hid cP
  have CO := Lib.hid cO
  have HE := Lib.hid he
  clear cP cO hT h1 h2 he
  go_enter Tryd.func8, Tryd.ntmps8
  repeat (first | (go_at_call 11; refine CP.out.mono ?_; rintro r w1 ⟨rfl, hb1⟩; simp only []; have HB1 := Lib.hid hb1; clear hb1) | (go_at_call 17; refine (CO.out _ (HE.out.below HB1.out)).mono ?_; rintro r w2 ⟨rfl, hb2⟩; simp only []; have HB2 := Lib.hid (Below.trans HB1.out (hb2.mono HB1.out.size)); clear hb2) | go_skip | go_guarded | go_step | go_upon)
  go_ret
  exact ⟨rfl, HB2.out⟩
end RF
end Go.Proofs.YtpcbbhbkiiklaaaDoor
