/- Layer 4: the program's Same, and the statement on it: its walk. -/
import Derived.Test.YtphblgpimphgiaaDoorHashAwake
import Derived.SliceStrings
namespace Go.Proofs.YtphblgpimphgiaaDoor
open Go.RowKit Go.Lib
namespace HQ
open HP HS HR

/-- A slice of texts lies there. -/
def TextsAt (W : World) (ao : Option Addr) (ts : List ByteArray) : Prop :=
  0 < ts.length → ∃ g o, ao = some ⟨g, o, none⟩ ∧ g < W.heap.size ∧ ∀ k t, ts[k]? = some t → W.cell? ⟨g, o + k, none⟩ = some (.string t)
theorem TextsAt.below {W W' : World} {ao : Option Addr} {ts : List ByteArray} (h : TextsAt W ao ts) (hb : Below W.heap.size W W') : TextsAt W' ao ts := fun h0 => by
  obtain ⟨g, o, e, hlt, hc⟩ := h h0
  exact ⟨g, o, e, Nat.lt_of_lt_of_le hlt hb.size, fun k t hk => (hb.cell (p := ⟨g, o + k, none⟩) hlt).trans (hc k t hk)⟩
/-- The first k are as the first one. -/
def AllAs (ts : List ByteArray) (k : Nat) : Prop := ∀ i, i < k → ts[i]? = ts[0]?
theorem eq_toList {x y : ByteArray} : (x.toList == y.toList) = decide (x = y) := by
  rw [Bool.eq_iff_iff]
  simp only [beq_iff_eq, decide_eq_true_eq]
  constructor
  · intro h
    rw [Lib.toList_data, Lib.toList_data] at h
    cases x; cases y
    simp only [ByteArray.mk.injEq]
    exact Array.toList_inj.1 h
  · intro h; rw [h]
/-- Just if all are as the first one. -/
def SameSays (ts : List ByteArray) (n : Nat) (r : Ending) : Prop := ∃ b : Bool, r = .returned (.bool b) ∧ (b = true ↔ AllAs ts n)
set_option maxRecDepth 100000 in
set_option maxHeartbeats 1600000 in
theorem same_any (ao : Option Addr) (cap : Nat) (ts : List ByteArray) (w : World) (h : TextsAt w ao ts) (hl : ts.length ≤ maxLen) :
    Calls Tryd.prog 19 #[.slice ao ts.length cap] w fun r w' => SameSays ts ts.length r ∧ w = w' := by
  unfold maxLen at hl
  obtain ⟨n, hn⟩ : ∃ n, ts.length = n := ⟨_, rfl⟩
  rw [hn] at hl ⊢
  have HN := Lib.hid hn
  have HT := Lib.hid h
  clear h hn
  go_enter Tryd.func19, Tryd.ntmps19
  go_wp2
  go_loop [4, 7] (fun _ s7 => ∃ k : Nat, k ≤ n ∧ s7 = .int .i64 k ∧ AllAs ts k) (fun _ s7 => n - (Go.RowKit.intOf s7).toNat)
  case atStart => exact ⟨0, Nat.zero_le _, rfl, fun i hi => by omega⟩
  case round =>
    obtain ⟨k, hk, rfl, ha⟩ := hrel
    have HA := Lib.hid ha
    clear ha
    by_cases hlt : k < n
    · have hz : (k : Int) < n := by omega
      have h0 : 0 < n := by omega
      obtain ⟨g, o, rfl, _, hc⟩ := HT.out (by rw [HN.out]; exact h0)
      obtain ⟨y, hy⟩ : ∃ y, ts[0]? = some y := ⟨ts[0]'(by rw [HN.out]; exact h0), List.getElem?_eq_getElem _⟩
      obtain ⟨x, hx⟩ : ∃ x, ts[k]? = some x := ⟨ts[k]'(by rw [HN.out]; exact hlt), List.getElem?_eq_getElem _⟩
      have c0 := hc 0 y hy
      rw [Nat.add_zero] at c0
      have ck := hc k x hx
      have h0z : (0 : Int) < n := by omega
      by_cases hxy : x = y
      · have hb : (x.toList == y.toList) = true := by rw [eq_toList]; exact decide_eq_true hxy
        have HA2 : Hid (AllAs ts (k + 1)) := Lib.hid (fun i hi => by
          by_cases hik : i < k
          · exact HA.out i hik
          · rw [show i = k by omega, hx, hy, hxy])
        clear hc hy hx hxy
        go_wp2_with fail
        go_round
        case rel => exact ⟨k + 1, by omega, by go_num, HA2.out⟩
        case measure => simp [Go.RowKit.intOf]; omega
      · have hb : (x.toList == y.toList) = false := by rw [eq_toList]; exact decide_eq_false hxy
        have HF : Hid (¬ AllAs ts n) := Lib.hid (fun hall => by
          have := hall k hlt
          rw [hx, hy] at this
          exact hxy (Option.some.inj this))
        clear hc hy hx hxy
        go_wp2_with fail
        go_ret
        exact ⟨⟨false, rfl, ⟨fun h => Bool.noConfusion h, fun h => absurd h HF.out⟩⟩, rfl⟩
    · have hz : ¬ (k : Int) < n := by omega
      have ek : k = n := by omega
      go_wp2_with fail
      go_ret
      exact ⟨⟨true, rfl, ⟨fun _ => ek ▸ HA.out, fun _ => rfl⟩⟩, rfl⟩
set_option maxRecDepth 100000 in
set_option maxHeartbeats 1600000 in
theorem same_law (ao : Option Addr) (cap : Nat) (ts : List ByteArray) (w : World) (he : Env w) (h : TextsAt w ao ts) (hl : ts.length ≤ maxLen) :
    Calls Tryd.prog 7 #[.slice ao ts.length cap] w fun r w' => r = .returned (.bool true) ∧ Below w.heap.size w w' := by
  have cA := awake_any w he
  have hl2 := hl
  unfold maxLen at hl2
  obtain ⟨n, hn⟩ : ∃ n, ts.length = n := ⟨_, rfl⟩
  have HN := Lib.hid hn
  have HT := Lib.hid h
  have HL := Lib.hid hl
  rw [hn] at hl2 ⊢
  clear h hn he hl
  go_enter Tryd.func7, Tryd.ntmps7
  go_wp2_with fail
  refine cA.mono ?_
  rintro r w2 ⟨rfl, hb⟩
  have HB := Lib.hid hb
  have HT2 := Lib.hid (HT.out.below hb)
  clear hb cA HT
  go_wp2_with fail
  go_loopw [3, 4] (fun s3 s4 wr => ∃ (k : Nat) (b : Bool), 1 ≤ k ∧ s4 = .int .i64 k ∧ s3 = .bool b ∧ (k ≤ n ∨ k = 1) ∧ (b = true ↔ AllAs ts k) ∧ Below w2.heap.size w2 wr) (fun _ s4 _ => n - (Go.RowKit.intOf s4).toNat)
  case atStart => exact ⟨1, true, Nat.le_refl _, rfl, rfl, .inr rfl, ⟨fun _ i hi => by rw [show i = 0 by omega], fun _ => rfl⟩, Below.refl _ _⟩
  case round =>
    obtain ⟨k, b, hk1, rfl, rfl, hk, hb', hbw⟩ := hrel
    have HBb := Lib.hid hb'
    have HBw := Lib.hid hbw
    have HTr := Lib.hid (HT2.out.below hbw)
    clear hb' hbw
    by_cases hlt : k < n
    · have hz : (k : Int) < n := by omega
      obtain ⟨g, o, rfl, _, hc⟩ := HTr.out (by rw [HN.out]; omega)
      obtain ⟨j, hj⟩ : ∃ j : Nat, (k : Int) - 1 = j := ⟨k - 1, by omega⟩
      have hjk : j = k - 1 := by omega
      obtain ⟨x, hx⟩ : ∃ x, ts[k]? = some x := ⟨ts[k]'(by rw [HN.out]; exact hlt), List.getElem?_eq_getElem _⟩
      obtain ⟨y, hy⟩ : ∃ y, ts[j]? = some y := ⟨ts[j]'(by rw [HN.out]; omega), List.getElem?_eq_getElem _⟩
      have ck := hc k x hx
      have cj := hc j y hy
      have hjz : (j : Int) < n := by omega
      cases b with
      | false =>
        have HB2 : Hid (false = true ↔ AllAs ts (k + 1)) := Lib.hid ⟨fun h => Bool.noConfusion h, fun h => HBb.out.2 (fun i hi => h i (by omega))⟩
        clear hc hy hx hjk
        go_wp2_with fail
        go_quiet (fail)
        rename_i nq
        have HB3 : Hid (Below w2.heap.size w2 (wr.drewN nq)) := Lib.hid ⟨HBw.out.os, HBw.out.tape, HBw.out.output, HBw.out.size, HBw.out.block⟩
        generalize wr.drewN nq = w3 at HB3 ⊢
        go_wp2_with fail
        go_roundw
        case rel => exact ⟨k + 1, false, by omega, by go_num, rfl, .inl (by omega), HB2.out, HB3.out⟩
        case measure => simp [Go.RowKit.intOf]; omega
      | true =>
        have hall : AllAs ts k := HBb.out.1 rfl
        have hy0 : ts[0]? = some y := by rw [← hy]; exact (hall j (by omega)).symm
        by_cases hxy : x = y
        · have hb : (x.toList == y.toList) = true := by rw [eq_toList]; exact decide_eq_true hxy
          have HB2 : Hid (AllAs ts (k + 1)) := Lib.hid (fun i hi => by
            by_cases hik : i < k
            · exact hall i hik
            · rw [show i = k by omega, hx, hy0, hxy])
          clear hc hy hx hjk hall hy0 hxy
          go_wp2_with fail
          go_quiet (fail)
          rename_i nq
          have HB3 : Hid (Below w2.heap.size w2 (wr.drewN nq)) := Lib.hid ⟨HBw.out.os, HBw.out.tape, HBw.out.output, HBw.out.size, HBw.out.block⟩
          generalize wr.drewN nq = w3 at HB3 ⊢
          go_wp2_with fail
          go_roundw
          case rel => exact ⟨k + 1, true, by omega, by go_num, rfl, .inl (by omega), ⟨fun _ => HB2.out, fun _ => rfl⟩, HB3.out⟩
          case measure => simp [Go.RowKit.intOf]; omega
        · have hb : (x.toList == y.toList) = false := by rw [eq_toList]; exact decide_eq_false hxy
          have HB2 : Hid (¬ AllAs ts (k + 1)) := Lib.hid (fun h => by
            have := h k (by omega)
            rw [hx, hy0] at this
            exact hxy (Option.some.inj this))
          clear hc hy hx hjk hall hy0 hxy
          go_wp2_with fail
          go_quiet (fail)
          rename_i nq
          have HB3 : Hid (Below w2.heap.size w2 (wr.drewN nq)) := Lib.hid ⟨HBw.out.os, HBw.out.tape, HBw.out.output, HBw.out.size, HBw.out.block⟩
          generalize wr.drewN nq = w3 at HB3 ⊢
          go_wp2_with fail
          go_roundw
          case rel => exact ⟨k + 1, false, by omega, by go_num, rfl, .inl (by omega), ⟨fun h => Bool.noConfusion h, fun h => absurd h HB2.out⟩, HB3.out⟩
          case measure => simp [Go.RowKit.intOf]; omega
    · have hz : ¬ (k : Int) < n := by omega
      have HAll : Hid (b = true ↔ AllAs ts n) := Lib.hid (by
        rcases hk with hk | hk
        · rw [show n = k by omega]; exact HBb.out
        · refine HBb.out.trans ⟨fun h i hi => h i (by omega), fun h i hi => ?_⟩
          rw [show i = 0 by omega])
      have cS : ∀ W, TextsAt W ao ts → Calls Tryd.prog 19 #[.slice ao n cap] W fun r w' => r = .returned (.bool b) ∧ W = w' := fun W hW => by
        have h := same_any ao cap ts W hW HL.out
        rw [HN.out] at h
        refine h.mono ?_
        rintro r w' ⟨⟨b2, rfl, hb2⟩, rfl⟩
        have : b2 = b := Bool.eq_iff_iff.2 (hb2.trans HAll.out.symm)
        rw [this]
        exact ⟨rfl, rfl⟩
      have hbb : (b == b) = true := by simp
      have CS := Lib.hid cS
      clear cS
      go_wp2_with (go_at_call 19; refine (CS.out _ HTr.out).mono ?_; rintro r w4 ⟨rfl, rfl⟩)
      go_ret
      exact ⟨rfl, Below.trans HB.out (HBw.out.mono HB.out.size)⟩
end HQ
end Go.Proofs.YtphblgpimphgiaaDoor
