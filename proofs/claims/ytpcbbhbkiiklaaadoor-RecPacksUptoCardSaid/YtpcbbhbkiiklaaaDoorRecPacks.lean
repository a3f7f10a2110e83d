/- Layer 5: the walk of RecPacks. -/
import Derived.Test.YtpcbbhbkiiklaaaDoorRecReads
namespace Go.Proofs.YtpcbbhbkiiklaaaDoor
open Go.RowKit Go.Lib Go.BigFrame
namespace RF
open HP HS RP OM RQ HR
open HQ (Env crc_any)

set_option maxRecDepth 100000 in
set_option maxHeartbeats 3200000 in
theorem packs_any (ao : Option Addr) (cap : Nat) (ls : List (List UInt8)) (w : World) (he : Env w) (h : Lay w ao ls) (hm : (joined ls).length ≤ 1073741824) :
    Calls Tryd.prog 3 #[.slice ao ls.length cap] w fun r w' => r = .returned (.bool true) ∧ Below w.heap.size w w' := by
  obtain ⟨TJ, hTJ⟩ : ∃ T : ByteArray, ⟨(joinT ls).toArray⟩ = T := ⟨_, rfl⟩
  obtain ⟨JE, hJE⟩ : ∃ e : Nat, joinE ls = e := ⟨_, rfl⟩
  have eJ : joinV ls = .returned (.tuple #[.string TJ, .int .i64 (JE : Nat)]) := by unfold joinV txt; rw [hTJ, hJE]
  have cA := awake_any w he
  obtain ⟨n, hn⟩ : ∃ n, ls.length = n := ⟨_, rfl⟩
  have hnm : n ≤ 1073741824 := by have := joined_len ls; omega
  have q1 := str_same TJ
  have c1 : ∀ W, Below w.heap.size w W → Calls Tryd.prog 9 #[.slice ao n cap] W (fun r w' => r = .returned (.tuple #[.string TJ, .int .i64 (JE : Nat)]) ∧ Below W.heap.size W w') := fun W hW => by
    have h := join_any ao cap ls W (he.below hW) (h.below hW) hm
    rw [eJ, hn] at h
    exact h
  have c2 : ∀ W, Below w.heap.size w W → Calls Tryd.prog 10 #[.slice ao n cap] W (fun r w' => r = .returned (.tuple #[.string TJ, .int .i64 (JE : Nat)]) ∧ Below W.heap.size W w') := fun W hW => by
    have h := rjoin_any crc_of ao cap ls W (h.below hW) hm
    rw [eJ, hn] at h
    exact h
  have C1 := Lib.hid c1
  have C2 := Lib.hid c2
  have CA := Lib.hid cA
  have HN := Lib.hid hn
  have HL := Lib.hid h
  have HE := Lib.hid he
  have HM := Lib.hid hm
  rw [hn]
  clear c1 c2 cA eJ hTJ hJE hn h he hm
  go_enter Tryd.func3, Tryd.ntmps3
  repeat (first
    | (go_at_call 8; refine CA.out.mono ?_; rintro r w1 ⟨rfl, hb⟩; simp only []; have B1 := Lib.hid hb; clear hb)
    | (go_at_call 9; refine (C1.out _ B1.out).mono ?_; rintro r w2 ⟨rfl, hb⟩; simp only []; have B2 := Lib.hid (Below.trans B1.out (hb.mono B1.out.size)); clear hb)
    | (go_at_call 10; refine (C2.out _ B2.out).mono ?_; rintro r w3 ⟨rfl, hb⟩; simp only []; have B3 := Lib.hid (Below.trans B2.out (hb.mono B2.out.size)); clear hb)
    | go_skip | go_guarded | go_step | go_upon)
  go_loopw [8, 9, 10, 11, 12, 35] (fun _ _ _ _ _ s35 wr => ∃ k : Nat, s35 = .int .i64 k ∧ k ≤ n ∧ Below w.heap.size w wr) (fun _ _ _ _ _ s35 _ => n - (Go.RowKit.intOf s35).toNat)
  case atStart => exact ⟨0, rfl, Nat.zero_le _, B3.out⟩
  case round =>
    obtain ⟨k, rfl, hk, hb⟩ := hrel
    have HB := Lib.hid hb
    have hbs := hb.size
    clear hb
    by_cases hlt : k < n
    · have hkz : (k : Int) < n := by omega
      obtain ⟨g, o, rfl, _, hc⟩ := (HL.out.below HB.out) (by rw [HN.out]; omega)
      obtain ⟨x, hx⟩ : ∃ x, ls[k]? = some x := ⟨ls[k]'(by rw [HN.out]; exact hlt), List.getElem?_eq_getElem _⟩
      have c0 := hc k x hx
      have hxl := len_mem (List.mem_of_getElem? hx)
      have hxm : x.length ≤ maxLen := by have := HM.out; unfold maxLen; omega
      unfold txt at c0
      obtain ⟨TX, hTX⟩ : ∃ T : ByteArray, ⟨x.toArray⟩ = T := ⟨_, rfl⟩
      obtain ⟨TP, hTP⟩ : ∃ T : ByteArray, ⟨(packT x).toArray⟩ = T := ⟨_, rfl⟩
      obtain ⟨PE, hPE⟩ : ∃ e : Nat, packE x = e := ⟨_, rfl⟩
      have q2 := str_same TP
      have c3 : ∀ W, Below w.heap.size w W → Calls Tryd.prog 11 #[.string TX] W (fun r w' => r = .returned (.tuple #[.string TP, .int .i64 (PE : Nat)]) ∧ Below W.heap.size W w') := fun W hW => by
        have h := pack_any x W (HE.out.below hW) hxm
        unfold packV txt at h
        rw [hTX, hTP, hPE] at h
        exact h
      have c4 : ∀ W, Calls Tryd.prog 12 #[.string TX] W (fun r w' => r = .returned (.tuple #[.string TP, .int .i64 (PE : Nat)]) ∧ Below W.heap.size W w') := fun W => by
        have h := rpack_any crc_of x W hxm
        rw [hTX, hTP, hPE] at h
        exact h
      have C3 := Lib.hid c3
      have C4 := Lib.hid c4
      rw [hTX] at c0
      clear c3 c4 hTX hTP hPE hxl hxm hx hc hlt
      repeat (first
        | (go_at_call 11; refine (C3.out _ HB.out).mono ?_; rintro r w4 ⟨rfl, hb⟩; simp only []; have B4 := Lib.hid (Below.trans HB.out (hb.mono HB.out.size)); clear hb)
        | (go_at_call 12; refine (C4.out _).mono ?_; rintro r w5 ⟨rfl, hb⟩; simp only []; have B5 := Lib.hid (Below.trans B4.out (hb.mono B4.out.size)); clear hb)
        | go_skip | go_guarded | go_step | go_upon)
      exact ⟨⟨k + 1, by go_num, by omega, B5.out⟩, by simp [Go.RowKit.intOf]; omega⟩
    · have hkz : ¬ (k : Int) < n := by omega
      clear hlt
      repeat (first | go_skip | go_guarded | go_step | go_upon)
      go_ret
      exact ⟨rfl, HB.out⟩
end RF
end Go.Proofs.YtpcbbhbkiiklaaaDoor
