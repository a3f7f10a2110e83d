/- Layer 5: the contract of the program's Join. -/
import Derived.Test.YtpcbbhbkiiklaaaDoorRecAl
import Derived.Test.YtpcbbhbkiiklaaaDoorRecRefJ
import Derived.Test.YtpcbbhbkiiklaaaDoorBuild
import Derived.Test.YtpcbbhbkiiklaaaDoorShelf
namespace Go.Proofs.YtpcbbhbkiiklaaaDoor
open Go.RowKit Go.Lib Go.BigFrame
namespace RF
open HP HS RP OM RQ HR
open HQ (Env crc_any)

theorem builder_below {B b : Nat} {bs : List Value} {w w' : World} (h : GB.Is B b bs w) (hb : Below w.heap.size w w') : GB.Is B b bs w' := by
  have key : ∀ p, GB.At B b p bs w → GB.At B b p bs w' := by
    rintro p ⟨hB, v, hbk, hown, hne⟩
    refine ⟨hB, v, by rw [hb.block b (Array.getElem?_eq_some_iff.1 hbk).1]; exact hbk, ?_, hne⟩
    refine ⟨hown.1, ?_⟩
    rcases hown.2 with hn | ⟨g, cap, cur, fz, rfl, hb', hgg, rest⟩
    · exact .inl hn
    · exact .inr ⟨g, cap, cur, fz, rfl, hb', by rw [hb.block g (Array.getElem?_eq_some_iff.1 hgg).1]; exact hgg, rest⟩
  rcases h with h | h
  · exact .inl (key _ h)
  · exact .inr (key _ h)
theorem cells_app (a b : List UInt8) : Lib.byteCells (a ++ b) = Lib.byteCells a ++ Lib.byteCells b := by simp [Lib.byteCells]
theorem str_cells (l : List UInt8) : Lib.strCells ⟨l.toArray⟩ = Lib.byteCells l := by simp [Lib.byteCells, Lib.strCells]
/-- The loop's state: the first k are written. -/
def PJoin (ls : List (List UInt8)) (w : World) (_s6 _s7 _s8 s11 : Value) (wr : World) : Prop :=
  ∃ k : Nat, s11 = .int .i64 k ∧ k ≤ ls.length ∧ GB.Is w.heap.size w.heap.size (Lib.byteCells (joined (ls.take k))) wr ∧ (∀ p ∈ ls.take k, p.length ≤ MaxP) ∧ Below w.heap.size w wr
set_option maxRecDepth 100000 in
set_option maxHeartbeats 3200000 in
theorem join_any (ao : Option Addr) (cap : Nat) (ls : List (List UInt8)) (w : World) (hE : Env w) (h : Lay w ao ls) (hm : (joined ls).length ≤ 1073741824) :
    Calls Tryd.prog 9 #[.slice ao ls.length cap] w fun r w' => r = joinV ls ∧ Below w.heap.size w w' := by
  obtain ⟨n, hn⟩ : ∃ n, ls.length = n := ⟨_, rfl⟩
  have HN := Lib.hid hn
  have HL := Lib.hid h
  have HM := Lib.hid hm
  have HEn := Lib.hid hE
  have hnm : n ≤ 1073741824 := by have := joined_len ls; omega
  rw [hn]
  have hf : GB.Is w.heap.size w.heap.size (Lib.byteCells (joined (ls.take 0))) (w.alloc (.cells #[.pointer none, .slice none 0 0] 48)) := Lib.IsBuilderF.of (Lib.fresh_isBuilder 48 5 w)
  have Hf := Lib.hid hf
  clear h hn hm hE hf
  go_enter Tryd.func9, Tryd.ntmps9
  repeat (first | go_skip | go_guarded | go_step | go_upon)
  go_loopw [6, 7, 8, 11] (PJoin ls w) (fun _ _ _ s11 _ => n - (Go.RowKit.intOf s11).toNat)
  case atStart => exact ⟨0, rfl, Nat.zero_le _, Hf.out, fun p hp => by simp at hp, (Below.refl _ _).alloc (Nat.le_refl _) _⟩
  case round =>
    obtain ⟨k, rfl, hk, hB, ha, hb⟩ := hrel
    rw [HN.out] at hk
    have HA := Lib.hid ha
    have HB := Lib.hid hb
    have HBu := Lib.hid hB
    have HT := Lib.hid (HL.out.below hb)
    have hbs := hb.size
    clear ha hb hB
    by_cases hlt : k < n
    · have hkz : (k : Int) < n := by omega
      obtain ⟨g, o, rfl, _, hc⟩ := HT.out (by rw [HN.out]; omega)
      obtain ⟨x, hx⟩ : ∃ x, ls[k]? = some x := ⟨ls[k]'(by rw [HN.out]; exact hlt), List.getElem?_eq_getElem _⟩
      have c0 := hc k x hx
      have hmem := List.mem_of_getElem? hx
      have hxl := len_mem hmem
      have hjt := joined_take ls (k + 1)
      have ht := take_snoc hx
      have cP := fun W (hW : Env W) => pack_any x W hW (by have := HM.out; unfold maxLen; omega)
      unfold packV txt at cP
      unfold txt at c0
      obtain ⟨TX, hTX⟩ : ∃ T : ByteArray, ⟨x.toArray⟩ = T := ⟨_, rfl⟩
      rw [hTX] at c0 cP
      by_cases hxm : x.length ≤ MaxP
      · have e1 : packT x = packL x := by unfold packT; rw [if_pos hxm]
        have e2 : packE x = 0 := by unfold packE; rw [if_pos hxm]
        rw [e1, e2] at cP
        obtain ⟨TP, hTP⟩ : ∃ T : ByteArray, ⟨(packL x).toArray⟩ = T := ⟨_, rfl⟩
        rw [hTP] at cP
        have hTPs : TP.size = (packL x).length := by rw [← hTP, Lib.size_eq]
        have hroom : Hid ((Lib.byteCells (joined (ls.take k))).length + TP.size ≤ 140737488355328) := Lib.hid (by
          rw [ht, joined_snoc, List.length_append] at hjt
          rw [Lib.byteCells_length, hTPs]
          have := HM.out
          omega)
        have HJ : Hid (Lib.byteCells (joined (ls.take k)) ++ Lib.strCells TP = Lib.byteCells (joined (ls.take (k + 1)))) := Lib.hid (by
          rw [ht, joined_snoc, cells_app, ← hTP, str_cells])
        have HA2 : Hid (∀ p ∈ ls.take (k + 1), p.length ≤ MaxP) := Lib.hid (by
          rw [ht]
          intro p hp
          rcases List.mem_append.1 hp with hp | hp
          · exact HA.out p hp
          · simp at hp; rw [hp]; exact hxm)
        have CP := Lib.hid cP
        clear cP hTP hTPs hTX hjt ht hxl hmem hx hc hxm e1 e2
        repeat (first | (go_at_call 11; refine (CP.out _ (HEn.out.below HB.out)).mono ?_; rintro r w1 ⟨rfl, hb1⟩; simp only []; have HBu1 := Lib.hid (builder_below HBu.out hb1); have HB1 := Lib.hid (Below.trans HB.out (hb1.mono hbs)); have hbs1 := HB1.out.size; clear hb1) | (go_at_call 20; refine (GB.str_any w.heap.size w.heap.size _ TP w1 HBu1.out hroom.out hbs1).mono ?_; rintro r w2 ⟨rfl, hB2, hb2, ho2⟩; simp only []; have HBu2 := Lib.hid hB2; have HB2 := Lib.hid (Below.trans HB1.out hb2); clear hB2 hb2 ho2) | go_skip | go_guarded | go_step | go_upon)
        trace_state
        refine ⟨⟨k + 1, by go_num, by rw [HN.out]; omega, ?_, HA2.out, HB2.out⟩, ?_⟩
        · have h := HBu2.out
          rw [HJ.out] at h
          exact h
        · simp [Go.RowKit.intOf]; omega
      · have e1 : packT x = [] := by unfold packT; rw [if_neg hxm]
        have e2 : packE x = 32 := by unfold packE; rw [if_neg hxm]
        have HV := Lib.hid (joinV_bad hmem (by omega))
        rw [e1, e2] at cP
        have CP := Lib.hid cP
        clear cP hTX hjt ht hxl hmem hx hc hxm e1 e2
        repeat (first | (go_at_call 11; refine (CP.out _ (HEn.out.below HB.out)).mono ?_; rintro r w1 ⟨rfl, hb1⟩; simp only []; have HB1 := Lib.hid (Below.trans HB.out (hb1.mono hbs)); clear hb1) | go_skip | go_guarded | go_step | go_upon)
        go_ret2
        exact ⟨by rw [HV.out]; rfl, HB1.out⟩
    · have hkz : ¬ (k : Int) < n := by omega
      have ht : ls.take k = ls := List.take_of_length_le (by rw [HN.out]; omega)
      have HV : Hid (joinV ls = .returned (.tuple #[txt (joined ls), .int .i64 0])) := Lib.hid (joinV_ok (by have := HA.out; rw [ht] at this; exact this))
      rw [ht] at HBu
      clear ht hlt
      repeat (first | (go_at_call 21; refine (Tryd.Builder_String_any_k w.heap.size w.heap.size _ _ HBu.out hbs).mono ?_; rintro r w2 ⟨rfl, _, hb2, _⟩; simp only []; have HB2 := Lib.hid (Below.trans HB.out hb2); clear hb2) | go_skip | go_guarded | go_step | go_upon)
      trace_state
      go_ret2
      exact ⟨HV.out.symm, HB2.out⟩
end RF
end Go.Proofs.YtpcbbhbkiiklaaaDoor
