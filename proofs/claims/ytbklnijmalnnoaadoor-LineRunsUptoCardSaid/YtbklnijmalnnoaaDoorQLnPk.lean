/- Layer 15: the contracts of the program's More, of ContainsFunc over payloads, of Pack. -/
import Derived.Test.YtbklnijmalnnoaaDoorQLnFrm
import Derived.Test.YtbklnijmalnnoaaDoorQBuild
import Derived.Test.YtbklnijmalnnoaaDoorShelf
set_option linter.all false
set_option maxRecDepth 100000
set_option maxHeartbeats 25600000
namespace Go.Proofs.YtbklnijmalnnoaaDoor
open Go.RowKit Go.Lib Go.BigFrame
namespace LN
open HP HS RP LP OM RQ HR RF
open HQ (Env crc_any)

set_option maxRecDepth 100000 in
set_option maxHeartbeats 1600000 in
theorem number_any (n : Int) (w : World) (h0 : -9223372036854775808 ≤ n) (h1 : n ≤ 9223372036854775807) :
    Calls Tryd.prog 22 #[.int .i64 n] w fun r w' => r = .returned (.bool (decide (0 ≤ n ∧ n < 4294967296))) ∧ w = w' := by
  obtain ⟨u, hu⟩ : ∃ u : Int, IntKind.u64.wrap n = u := ⟨_, rfl⟩
  have hb : decide (u ≤ 4294967295) = decide (0 ≤ n ∧ n < 4294967296) := by
    rw [← hu]
    simp only [IntKind.wrap, IntKind.bits, IntKind.signed]
    by_cases h : 0 ≤ n ∧ n < 4294967296
    · rw [decide_eq_true h]; simp; omega
    · rw [decide_eq_false h]; simp; omega
  rw [← hb]
  clear hb
  go_enter Tryd.func22, Tryd.ntmps22
  repeat (first | go_skip | go_guarded | go_step | go_upon)
  go_ret
  exact ⟨rfl, rfl⟩
set_option maxRecDepth 100000 in
set_option maxHeartbeats 1600000 in
theorem more_any (n : Int) (s : List UInt8) (w : World) (he : Env w) (h0 : -9223372036854775808 ≤ n) (h1 : n ≤ 9223372036854775807) (hm : s.length ≤ maxLen) :
    Calls Tryd.prog 14 #[.int .i64 n, txt s] w fun r w' => r = moreV n s ∧ Below w.heap.size w w' := by
  have CN := Lib.hid (number_any n w h0 h1)
  have CL := Lib.hid (long_any s w hm)
  by_cases hn : 0 ≤ n ∧ n < 4294967296
  · have e1 : decide (0 ≤ n ∧ n < 4294967296) = true := decide_eq_true hn
    rw [e1] at CN
    by_cases hl : MaxP < s.length
    · have e2 : decide (MaxP < s.length) = true := decide_eq_true hl
      rw [e2] at CL
      have HV : Hid (moreV n s = .returned (.tuple #[.string ⟨#[]⟩, .int .i64 32])) := Lib.hid (by
        have hc : ¬ (0 ≤ n ∧ n < 4294967296 ∧ s.length ≤ MaxP) := by omega
        unfold moreV moreT moreE
        rw [if_neg hc, if_neg hc]
        rfl)
      unfold txt at CL ⊢
      obtain ⟨T, hT⟩ : ∃ T : ByteArray, ⟨s.toArray⟩ = T := ⟨_, rfl⟩
      rw [hT] at CL ⊢
      clear he h0 h1 hm hn e1 hl e2 hT
      go_enter Tryd.func14, Tryd.ntmps14
      repeat (first | (go_at_call 22; refine CN.out.mono ?_; rintro r w1 ⟨rfl, rfl⟩; simp only []) | (go_at_call 17; refine CL.out.mono ?_; rintro r w1 ⟨rfl, rfl⟩; simp only []) | go_skip | go_guarded | go_step | go_upon)
      go_ret2
      exact ⟨by rw [HV.out]; rfl, Below.refl _ _⟩
    · have e2 : decide (MaxP < s.length) = false := decide_eq_false hl
      rw [e2] at CL
      obtain ⟨k, rfl⟩ : ∃ k : Nat, n = k := ⟨n.toNat, by omega⟩
      have HV : Hid (moreV k s = .returned (.tuple #[txt (frameL k s), .int .i64 0])) := Lib.hid (by
        have hc : 0 ≤ (k : Int) ∧ (k : Int) < 4294967296 ∧ s.length ≤ MaxP := by omega
        unfold moreV moreT moreE
        rw [if_pos hc, if_pos hc, Int.toNat_natCast]
        rfl)
      have CF := Lib.hid (frame_any k s w he (by omega) (by omega))
      have hkz : (k : Int) < 4294967296 := hn.2
      unfold txt at CL CF HV ⊢
      obtain ⟨T, hT⟩ : ∃ T : ByteArray, ⟨s.toArray⟩ = T := ⟨_, rfl⟩
      obtain ⟨F, hF⟩ : ∃ T : ByteArray, ⟨(frameL k s).toArray⟩ = T := ⟨_, rfl⟩
      rw [hT] at CL ⊢
      rw [hT, hF] at CF
      rw [hF] at HV
      clear he h0 h1 hm hn e1 hl e2 hT hF
      go_enter Tryd.func14, Tryd.ntmps14
      repeat (first | (go_at_call 22; refine CN.out.mono ?_; rintro r w1 ⟨rfl, rfl⟩; simp only []) | (go_at_call 17; refine CL.out.mono ?_; rintro r w1 ⟨rfl, rfl⟩; simp only []) | (go_at_call 19; refine CF.out.mono ?_; rintro r w1 ⟨rfl, hb⟩; simp only []; have HB := Lib.hid hb; clear hb) | go_skip | go_guarded | go_step | go_upon)
      go_ret2
      exact ⟨HV.out.symm, HB.out⟩
  · have e1 : decide (0 ≤ n ∧ n < 4294967296) = false := decide_eq_false hn
    rw [e1] at CN
    have HV : Hid (moreV n s = .returned (.tuple #[.string ⟨#[]⟩, .int .i64 32])) := Lib.hid (by
      have hc : ¬ (0 ≤ n ∧ n < 4294967296 ∧ s.length ≤ MaxP) := by omega
      unfold moreV moreT moreE
      rw [if_neg hc, if_neg hc]
      rfl)
    unfold txt
    obtain ⟨T, hT⟩ : ∃ T : ByteArray, ⟨s.toArray⟩ = T := ⟨_, rfl⟩
    rw [hT]
    clear he h0 h1 hm hn e1 hT CL
    go_enter Tryd.func14, Tryd.ntmps14
    repeat (first | (go_at_call 22; refine CN.out.mono ?_; rintro r w1 ⟨rfl, rfl⟩; simp only []) | go_skip | go_guarded | go_step | go_upon)
    go_ret2
    exact ⟨by rw [HV.out]; rfl, Below.refl _ _⟩
/-- Some payload is too long. -/
def badT (ls : List (List UInt8)) : Bool := ls.any fun p => decide (MaxP < p.length)
theorem badT_no {ls : List (List UInt8)} (h : badT ls = false) : ∀ p ∈ ls, p.length ≤ MaxP := fun p hp => by
  have := (List.any_eq_false.1 h) p hp
  simp at this
  omega
theorem badT_yes {ls : List (List UInt8)} (h : badT ls = true) : ¬ ∀ p ∈ ls, p.length ≤ MaxP := fun e => by
  obtain ⟨p, hp, hl⟩ := List.any_eq_true.1 h
  have := e p hp
  simp at hl
  omega
set_option maxRecDepth 100000 in
set_option maxHeartbeats 1600000 in
theorem index_any (ao : Option Addr) (cap : Nat) (ls : List (List UInt8)) (w : World) (h : Lay w ao ls) (hm : ∀ p ∈ ls, p.length ≤ maxLen) (hl : ls.length ≤ maxLen) :
    Calls Tryd.prog 25 #[.slice ao ls.length cap, .func (.func 17) #[] #[]] w fun r w' => ∃ z : Int, r = .returned (.int .i64 z) ∧ decide (0 ≤ z) = badT ls ∧ Below w.heap.size w w' := by
  obtain ⟨n, hn⟩ : ∃ n, ls.length = n := ⟨_, rfl⟩
  have HN := Lib.hid hn
  have HL := Lib.hid h
  have HS := Lib.hid hm
  unfold maxLen at hl
  rw [hn] at hl ⊢
  clear h hn hm
  go_enter Tryd.func25, Tryd.ntmps25
  repeat (first | go_skip | go_guarded | go_step | go_upon)
  go_loopw [8] (fun s8 wr => ∃ k : Nat, s8 = .int .i64 k ∧ k ≤ n ∧ badT (ls.take k) = false ∧ Below w.heap.size w wr) (fun s8 _ => n - (Go.RowKit.intOf s8).toNat)
  case atStart => exact ⟨0, rfl, Nat.zero_le _, rfl, Below.refl _ _⟩
  case round =>
    obtain ⟨k, rfl, hkn, hbad, hb⟩ := hrel
    have HB := Lib.hid hb
    have HBad := Lib.hid hbad
    have hbs := hb.size
    have HLr := Lib.hid (HL.out.below hb)
    clear hb hbad
    by_cases hlt : k < n
    · have hltz : (k : Int) < n := by omega
      obtain ⟨g, o, rfl, hg, hc⟩ := HLr.out (by rw [HN.out]; omega)
      obtain ⟨x, hx⟩ : ∃ x, ls[k]? = some x := ⟨ls[k]'(by rw [HN.out]; exact hlt), List.getElem?_eq_getElem _⟩
      have c0 := hc k x hx
      have cx := long_any x wr (HS.out x (List.mem_of_getElem? hx))
      unfold txt at c0 cx
      obtain ⟨X, hX⟩ : ∃ T : ByteArray, ⟨x.toArray⟩ = T := ⟨_, rfl⟩
      rw [hX] at c0 cx
      cases hp : decide (MaxP < x.length) with
      | false =>
        rw [hp] at cx
        have CX := Lib.hid cx
        have HN2 : Hid (badT (ls.take (k + 1)) = false) := Lib.hid (by
          rw [take_snoc hx]
          unfold badT
          rw [List.any_append]
          have := HBad.out
          unfold badT at this
          rw [this]
          simp [hp])
        clear hc hx hX cx hlt hp
        repeat (first | (go_at_fn 17; fail) | go_skip | go_guarded | go_step | go_upon)
        refine CX.out.mono ?_
        rintro r w1 ⟨rfl, rfl⟩
        simp only []
        repeat (first | go_skip | go_guarded | go_step | go_upon)
        exact ⟨⟨k + 1, by go_num, by omega, HN2.out, HB.out⟩, by simp [Go.RowKit.intOf]; omega⟩
      | true =>
        rw [hp] at cx
        have CX := Lib.hid cx
        have HN2 : Hid (badT ls = true) := Lib.hid (List.any_eq_true.2 ⟨x, List.mem_of_getElem? hx, hp⟩)
        clear hc hx hX cx hlt hp
        repeat (first | (go_at_fn 17; fail) | go_skip | go_guarded | go_step | go_upon)
        refine CX.out.mono ?_
        rintro r w1 ⟨rfl, rfl⟩
        simp only []
        repeat (first | go_skip | go_guarded | go_step | go_upon)
        go_ret
        exact ⟨(k : Int), rfl, by rw [HN2.out]; exact decide_eq_true (by omega), HB.out⟩
    · have hltz : ¬ (k : Int) < n := by omega
      have HF : Hid (badT ls = false) := Lib.hid (by
        have := HBad.out
        rw [List.take_of_length_le (by rw [HN.out]; omega)] at this
        exact this)
      clear hlt
      repeat (first | go_skip | go_guarded | go_step | go_upon)
      go_ret
      exact ⟨-1, rfl, by rw [HF.out]; rfl, HB.out⟩
set_option maxRecDepth 100000 in
theorem contains_any (ao : Option Addr) (cap : Nat) (ls : List (List UInt8)) (w : World) (h : Lay w ao ls) (hm : ∀ p ∈ ls, p.length ≤ maxLen) (hl : ls.length ≤ maxLen) :
    Calls Tryd.prog 16 #[.slice ao ls.length cap, .func (.func 17) #[] #[]] w fun r w' => r = .returned (.bool (badT ls)) ∧ Below w.heap.size w w' := by
  have CB := Lib.hid (index_any ao cap ls w h hm hl)
  obtain ⟨n, hn⟩ : ∃ n, ls.length = n := ⟨_, rfl⟩
  obtain ⟨b, hbb⟩ : ∃ b, badT ls = b := ⟨_, rfl⟩
  have HBB := Lib.hid hbb
  rw [hn] at CB ⊢
  rw [hbb]
  clear h hm hl hn hbb
  go_enter Tryd.func16, Tryd.ntmps16
  repeat (first | (go_at_call 25; fail) | go_skip | go_guarded | go_step | go_upon)
  refine CB.out.mono ?_
  rintro r w1 ⟨z, rfl, hz, hb⟩
  simp only []
  have B1 := Lib.hid hb
  rw [HBB.out] at hz
  clear hb
  repeat (first | go_skip | go_guarded | go_step | go_upon)
  go_ret
  exact ⟨by first | rfl | (rw [← hz]; rfl), B1.out⟩
/-- What a list of payloads is packed to. -/
def packT (ls : List (List UInt8)) : List UInt8 := if badT ls then [] else framesL 0 ls
def packE (ls : List (List UInt8)) : Nat := if badT ls then 32 else 0
def packV (ls : List (List UInt8)) : Ending := .returned (.tuple #[txt (packT ls), .int .i64 (packE ls : Nat)])
theorem frames_snoc {ls : List (List UInt8)} {k : Nat} {x : List UInt8} (h : ls[k]? = some x) : framesL 0 (ls.take (k + 1)) = framesL 0 (ls.take k) ++ frameL k x := by
  have hk := (List.getElem?_eq_some_iff.1 h).1
  rw [take_snoc h, frames_app, List.length_take, Nat.min_eq_left (by omega), Nat.zero_add, framesL, framesL, List.append_nil]
theorem frames_take (ls : List (List UInt8)) (k : Nat) : (framesL 0 (ls.take k)).length ≤ (framesL 0 ls).length := by
  conv => rhs; rw [← List.take_append_drop k ls, frames_app, List.length_append]
  omega
theorem frames_count : ∀ (ls : List (List UInt8)) (n : Nat), 12 * ls.length ≤ (framesL n ls).length
  | [], _ => Nat.le_refl _
  | p :: ls, n => by
    have := frames_count ls (n + 1)
    rw [framesL, List.length_append, frame_len, List.length_cons]
    omega
theorem frames_mem : ∀ {ls : List (List UInt8)} {p : List UInt8} (n : Nat), p ∈ ls → p.length + 12 ≤ (framesL n ls).length
  | q :: ls, p, n, h => by
    rw [framesL, List.length_append, frame_len]
    rcases List.mem_cons.1 h with rfl | h
    · omega
    · have := frames_mem (n + 1) h; omega
theorem cells_app (a b : List UInt8) : Lib.byteCells (a ++ b) = Lib.byteCells a ++ Lib.byteCells b := by simp [Lib.byteCells]
theorem str_cells (l : List UInt8) : Lib.strCells ⟨l.toArray⟩ = Lib.byteCells l := by simp [Lib.byteCells, Lib.strCells]
theorem builder_below {B b : Nat} {bs : List Value} {w w' : World} (h : GB.Is B b bs w) (hb : Below w.heap.size w w') : GB.Is B b bs w' := by
  have key : ∀ p, GB.At B b p bs w → GB.At B b p bs w' := by
    rintro p ⟨hB, v, hbk, hown, hne⟩
    refine ⟨hB, v, by rw [hb.block b (Array.getElem?_eq_some_iff.1 hbk).1]; exact hbk, ?_, hne⟩
    refine ⟨hown.1, ?_⟩
    rcases hown.2 with hn | ⟨g, cap, cur, fz, rfl, hb', hgg, rest⟩
    · exact .inl hn
    · exact .inr ⟨g, cap, cur, fz, rfl, hb', by rw [hb.block g (Array.getElem?_eq_some_iff.1 hgg).1]; exact hgg, rest⟩
  rcases h with h | h
  · exact .inl (key _ h)
  · exact .inr (key _ h)
/-- The loop's state: the first k are written. -/
def PPack (ls : List (List UInt8)) (w w0 : World) (b : Nat) (_s5 _s6 s11 : Value) (wr : World) : Prop :=
  ∃ k : Nat, s11 = .int .i64 k ∧ k ≤ ls.length ∧ GB.Is b b (Lib.byteCells (framesL 0 (ls.take k))) wr ∧ Below b w0 wr ∧ Below w.heap.size w wr
set_option maxRecDepth 100000 in
set_option maxHeartbeats 3200000 in
theorem pack_any (ao : Option Addr) (cap : Nat) (ls : List (List UInt8)) (w : World) (hE : Env w) (h : Lay w ao ls) (hm : (framesL 0 ls).length ≤ 1073741824) :
    Calls Tryd.prog 7 #[.slice ao ls.length cap] w fun r w' => r = packV ls ∧ Below w.heap.size w w' := by
  obtain ⟨n, hn⟩ : ∃ n, ls.length = n := ⟨_, rfl⟩
  have hnm : n ≤ 1073741824 := by have := frames_count ls 0; omega
  have cC := contains_any ao cap ls w h (fun p hp => by have := frames_mem 0 hp; unfold maxLen; omega) (by unfold maxLen; omega)
  have HN := Lib.hid hn
  have HL := Lib.hid h
  have HM := Lib.hid hm
  have HEn := Lib.hid hE
  rw [hn] at cC ⊢
  cases hbad : badT ls with
  | true =>
    rw [hbad] at cC
    have HV : Hid (packV ls = .returned (.tuple #[.string ⟨#[]⟩, .int .i64 32])) := Lib.hid (by
      unfold packV packT packE
      rw [hbad]
      rfl)
    have CC := Lib.hid cC
    clear h hn hm hE cC hbad
    go_enter Tryd.func7, Tryd.ntmps7
    repeat (first | (go_at_call 16; fail) | go_skip | go_guarded | go_step | go_upon)
    refine CC.out.mono ?_
    rintro r w1 ⟨rfl, hb⟩
    simp only []
    have HB := Lib.hid hb
    clear hb
    repeat (first | go_skip | go_guarded | go_step | go_upon)
    go_ret2
    exact ⟨by rw [HV.out]; rfl, HB.out⟩
  | false =>
    rw [hbad] at cC
    have HV : Hid (packV ls = .returned (.tuple #[txt (framesL 0 ls), .int .i64 0])) := Lib.hid (by
      unfold packV packT packE
      rw [hbad]
      rfl)
    have HOk := Lib.hid (badT_no hbad)
    have CC := Lib.hid cC
    clear h hn hm hE cC hbad
    go_enter Tryd.func7, Tryd.ntmps7
    repeat (first | (go_at_call 16; fail) | go_skip | go_guarded | go_step | go_upon)
    refine CC.out.mono ?_
    rintro r w1 ⟨rfl, hb⟩
    simp only []
    have HB1 := Lib.hid hb
    clear hb
    have hf : GB.Is w1.heap.size w1.heap.size (Lib.byteCells (framesL 0 (ls.take 0))) (w1.alloc (.cells #[.pointer none, .slice none 0 0] 47)) := Lib.IsBuilderF.of (Lib.fresh_isBuilder 47 5 w1)
    have Hf := Lib.hid hf
    have hsz1 := HB1.out.size
    clear hf
    repeat (first | go_skip | go_guarded | go_step | go_upon)
    go_loopw [5, 6, 11] (PPack ls w w1 w1.heap.size) (fun _ _ s11 _ => n - (Go.RowKit.intOf s11).toNat)
    case atStart => exact ⟨0, rfl, Nat.zero_le _, Hf.out, (Below.refl _ _).alloc (Nat.le_refl _) _, HB1.out.alloc hsz1 _⟩
    case round =>
      obtain ⟨k, rfl, hk, hB, ha, hb⟩ := hrel
      rw [HN.out] at hk
      have HA := Lib.hid ha
      have HB := Lib.hid hb
      have HBu := Lib.hid hB
      have HT := Lib.hid (HL.out.below hb)
      have hbs := ha.size
      clear ha hb hB
      by_cases hlt : k < n
      · have hkz : (k : Int) < n := by omega
        obtain ⟨g, o, rfl, _, hc⟩ := HT.out (by rw [HN.out]; omega)
        obtain ⟨x, hx⟩ : ∃ x, ls[k]? = some x := ⟨ls[k]'(by rw [HN.out]; exact hlt), List.getElem?_eq_getElem _⟩
        have c0 := hc k x hx
        have hmem := List.mem_of_getElem? hx
        have hfs := frames_snoc hx
        have hft := frames_take ls (k + 1)
        have cP := fun W (hW : Env W) => frame_any k x W hW (by omega) (HOk.out x hmem)
        have hkw : (k : Int) < 4294967296 := by omega
        unfold txt at c0 cP
        obtain ⟨TX, hTX⟩ : ∃ T : ByteArray, ⟨x.toArray⟩ = T := ⟨_, rfl⟩
        obtain ⟨TP, hTP⟩ : ∃ T : ByteArray, ⟨(frameL k x).toArray⟩ = T := ⟨_, rfl⟩
        rw [hTX] at c0 cP
        rw [hTP] at cP
        have hTPs : TP.size = (frameL k x).length := by rw [← hTP, Lib.size_eq]
        have hroom : Hid ((Lib.byteCells (framesL 0 (ls.take k))).length + TP.size ≤ 140737488355328) := Lib.hid (by
          rw [hfs, List.length_append] at hft
          rw [Lib.byteCells_length, hTPs]
          have := HM.out
          omega)
        have HJ : Hid (Lib.byteCells (framesL 0 (ls.take k)) ++ Lib.strCells TP = Lib.byteCells (framesL 0 (ls.take (k + 1)))) := Lib.hid (by
          rw [hfs, cells_app, ← hTP, str_cells])
        have CP := Lib.hid cP
        clear cP hTP hTPs hTX hft hfs hmem hx hc
        repeat (first | (go_at_call 19; refine (CP.out _ (HEn.out.below HB.out)).mono ?_; rintro r w2 ⟨rfl, hb1⟩; simp only []; have HBu1 := Lib.hid (builder_below HBu.out hb1); have HA1 := Lib.hid (Below.trans HA.out (hb1.mono hbs)); have HB1 := Lib.hid (Below.trans HB.out (hb1.mono HB.out.size)); have hbs1 := HA1.out.size; clear hb1) | (go_at_call 18; refine (GB.str_any w1.heap.size w1.heap.size _ TP w2 HBu1.out hroom.out hbs1).mono ?_; rintro r w3 ⟨rfl, hB2, hb2, ho2⟩; simp only []; have HBu2 := Lib.hid hB2; have HA2 := Lib.hid (Below.trans HA1.out hb2); have HB2 := Lib.hid (Below.trans HB1.out (hb2.mono hsz1)); clear hB2 hb2 ho2) | go_skip | go_guarded | go_step | go_upon)
        refine ⟨⟨k + 1, by go_num, by rw [HN.out]; omega, ?_, HA2.out, HB2.out⟩, ?_⟩
        · have h := HBu2.out
          rw [HJ.out] at h
          exact h
        · simp [Go.RowKit.intOf]; omega
      · have hkz : ¬ (k : Int) < n := by omega
        have ht : ls.take k = ls := List.take_of_length_le (by rw [HN.out]; omega)
        rw [ht] at HBu
        clear ht hlt
        repeat (first | (go_at_call 20; refine (Tryd.Builder_String_any_k w1.heap.size w1.heap.size _ _ HBu.out hbs).mono ?_; rintro r w2 ⟨rfl, _, hb2, _⟩; simp only []; have HB2 := Lib.hid (Below.trans HB.out (hb2.mono hsz1)); clear hb2) | go_skip | go_guarded | go_step | go_upon)
        go_ret2
        exact ⟨HV.out.symm, HB2.out⟩
end LN
end Go.Proofs.YtbklnijmalnnoaaDoor
