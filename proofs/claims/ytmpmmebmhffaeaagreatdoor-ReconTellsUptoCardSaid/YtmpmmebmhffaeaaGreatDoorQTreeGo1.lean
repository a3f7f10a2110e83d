/- Layer 6: the contracts of the program's place (a binary search) and hasDir. -/
import Derived.Test.YtmpmmebmhffaeaaGreatDoorQNmA
import Derived.Test.YtmpmmebmhffaeaaGreatDoorQBase
import Derived.WalkKit
import Derived.WalkMore
import Derived.IntWalk
import Derived.Below
import Derived.Lib.Hide
import Derived.BigRegion
import Derived.BigQuiet
import Derived.Deep.RegionWith
import Derived.Lib.QuietBelow
import Derived.Shelf.Abstract
set_option linter.all false
set_option maxRecDepth 100000
set_option maxHeartbeats 25600000
namespace Go.Proofs.YtmpmmebmhffaeaaGreatDoor
open Go.RowKit Go.Lib Go.BigFrame
namespace TG
open OM TP TM

theorem drawn_below {w w' : World} (h : NO.Drawn w w') : Below w.heap.size w w' := by
  obtain ⟨n, rfl⟩ := h
  exact ⟨rfl, rfl, rfl, Nat.le_refl _, fun _ _ => rfl⟩
/-- Texts of at most this size. -/
def SmallG (ts : List Nd) : Prop := ∀ n ∈ ts, n.path.length ≤ 1048576 ∧ n.data.length ≤ 1048576
theorem order_txt (a b : ByteArray) (la lb : List UInt8) (w : World) (ha : a.data.toList = la) (hb : b.data.toList = lb) (h1 : la.length ≤ 1048576) (h2 : lb.length ≤ 1048576) :
    Calls Tryz.prog 56 #[.string a, .string b] w fun e w' => e = .returned (.int .i64 (NP.ordL la lb)) ∧ Below w.heap.size w w' := by
  subst ha hb
  refine (NO.order_any a b w (by rw [Lib.size_eq]; unfold maxLen; omega) (by rw [Lib.size_eq]; unfold maxLen; omega)).mono ?_
  rintro e w' ⟨rfl, hd⟩
  exact ⟨rfl, drawn_below hd⟩
theorem txt_of (l : List UInt8) : ∃ S : ByteArray, txt l = .string S ∧ S.data.toList = l := ⟨_, rfl, by simp⟩
set_option maxRecDepth 100000 in
theorem pl1_any (n : Nd) (p : List UInt8) (w : World) (hn : n.path.length ≤ 1048576) (hp : p.length ≤ 1048576) :
    Calls Tryz.prog 82 #[ndVal n, txt p] w fun r w' => r = .returned (.int .i64 (NP.ordL n.path p)) ∧ Below w.heap.size w w' := by
  obtain ⟨q, k, d, m⟩ := n
  obtain ⟨Q, hQ, hQd⟩ := txt_of q
  obtain ⟨S, hS, hSd⟩ := txt_of p
  obtain ⟨D, hD, _⟩ := txt_of d
  unfold ndVal
  simp only at hn ⊢
  rw [hQ, hS, hD]
  obtain ⟨z, hz⟩ : ∃ z, NP.ordL q p = z := ⟨_, rfl⟩
  have CO : Hid (∀ W, Calls Tryz.prog 56 #[.string Q, .string S] W fun e w' => e = .returned (.int .i64 z) ∧ Below W.heap.size W w') := Lib.hid (fun W => by
    rw [← hz]
    exact order_txt Q S q p W hQd hSd hn hp)
  have B0 : Hid (Below w.heap.size w (w.alloc (.cells #[.string Q, .int .i64 k, .string D, .int .i64 m] 40))) := Lib.hid ((Below.refl _ _).alloc (Nat.le_refl _) _)
  rw [hz]
  clear hQ hQd hS hSd hD hz hn hp
  go_enter Tryz.func82, Tryz.ntmps82
  repeat (first | (go_at_call 56; refine (CO.out _).mono ?_; rintro r w1 ⟨rfl, hb⟩; simp only []; have B1 := Lib.hid (Below.trans B0.out (hb.mono B0.out.size)); clear hb) | go_skip | go_guarded | go_step | go_upon)
  go_ret
  exact ⟨rfl, B1.out⟩
/-- What place answers. -/
def PlaceSays (ts : List Nd) (p : List UInt8) (k : Nat) (b : Bool) : Prop :=
  PlaceAt ts p k ∧ ((b = true ∧ ∃ x, ts[k]? = some x ∧ x.path = p) ∨ (b = false ∧ ∀ x, ts[k]? = some x → x.path ≠ p))
def PlacePost (ts : List Nd) (p : List UInt8) (w : World) (r : Ending) (w' : World) : Prop :=
  ∃ (k : Nat) (b : Bool), r = .returned (.tuple #[.int .i64 k, .bool b]) ∧ PlaceSays ts p k b ∧ Below w.heap.size w w'
theorem ord_zero (a b : List UInt8) : (NP.ordL a b == 0) = decide (a = b) := by
  rw [Bool.eq_iff_iff]
  simp [NP.ordL_zero]
set_option maxRecDepth 100000 in
set_option maxHeartbeats 3200000 in
theorem bsf_any (ao : Option Addr) (cap : Nat) (ts : List Nd) (p : List UInt8) (w : World) (h : LayN w ao ts) (hso : Sorted ts) (hs : SmallG ts) (hl : ts.length ≤ 1000) (hp : p.length ≤ 1048576) :
    Calls Tryz.prog 81 #[.slice ao ts.length cap, txt p, .func (.func 82) #[] #[]] w (PlacePost ts p w) := by
  have eg : ∀ args w, (callFunc 82 args).run Tryz.prog w = .ok (.enter 82 args) w := enters_of Tryz.func82 (by kernel_rfl) rfl
  obtain ⟨n, hn⟩ : ∃ n, ts.length = n := ⟨_, rfl⟩
  have HN := Lib.hid hn
  have HL := Lib.hid h
  have HS := Lib.hid hs
  have HO := Lib.hid hso
  rw [hn] at hl ⊢
  obtain ⟨S, hS, hSd⟩ := txt_of p
  have CP : Hid (∀ x ∈ ts, ∀ W, Calls Tryz.prog 82 #[ndVal x, .string S] W fun r w' => r = .returned (.int .i64 (NP.ordL x.path p)) ∧ Below W.heap.size W w') := Lib.hid (fun x hx W => by
    rw [← hS]
    exact pl1_any x p W (HS.out x hx).1 hp)
  rw [hS]
  clear h hn hS hSd hs hso
  go_enter Tryz.func81, Tryz.ntmps81
  repeat (first | go_skip | go_guarded | go_step | go_upon)
  go_loopw [9, 10] (fun s9 s10 wr => ∃ lo hi : Nat, s9 = .int .i64 lo ∧ s10 = .int .i64 hi ∧ lo ≤ hi ∧ hi ≤ n ∧ Ahead ts p lo ∧ Behind ts p hi ∧ Below w.heap.size w wr) (fun s9 s10 _ => (Go.RowKit.intOf s10).toNat - (Go.RowKit.intOf s9).toNat)
  case atStart => exact ⟨0, n, rfl, rfl, Nat.zero_le _, Nat.le_refl _, Ahead.zero _ _, Behind.last (by rw [HN.out]; exact Nat.le_refl _), Below.refl _ _⟩
  case round =>
    obtain ⟨lo, hi, rfl, rfl, hlh, hin, hA, hB, hb⟩ := hrel
    have HA := Lib.hid hA
    have HBe := Lib.hid hB
    have HB := Lib.hid hb
    have hbs := hb.size
    have HLr := Lib.hid (HL.out.below hb)
    clear hA hB hb
    by_cases hlt : lo < hi
    · obtain ⟨m, hm⟩ : ∃ m, (lo + hi) / 2 = m := ⟨_, rfl⟩
      have hmz : ((lo : Int) + (hi : Int)) / 2 = (m : Int) := by omega
      have hmlo : lo ≤ m := by omega
      have hmhi : m < hi := by omega
      have hmn : m < n := by omega
      have hmnz : (m : Int) < n := by omega
      have hltz : (lo : Int) < hi := by omega
      obtain ⟨g, o, rfl, hg, hc⟩ := HLr.out (by rw [HN.out]; omega)
      obtain ⟨x, hx⟩ : ∃ x, ts[m]? = some x := ⟨ts[m]'(by rw [HN.out]; exact hmn), List.getElem?_eq_getElem _⟩
      have hmem := List.mem_of_getElem? hx
      obtain ⟨X, hX, _⟩ := txt_of x.path
      obtain ⟨D, hD, _⟩ := txt_of x.data
      obtain ⟨c0, c1, c2, c3⟩ := hc m x hx
      rw [hX] at c0
      rw [hD] at c2
      have cx := CP.out x hmem
      unfold ndVal at cx
      rw [hX, hD] at cx
      obtain ⟨z, hz⟩ : ∃ z, NP.ordL x.path p = z := ⟨_, rfl⟩
      rw [hz] at cx
      have CX := Lib.hid cx
      have HX := Lib.hid hx
      have HZ := Lib.hid hz
      clear hc hx hX hD hmem cx hz hm hlt
      by_cases hz0 : z < 0
      · have HA2 : Hid (Ahead ts p (m + 1)) := Lib.hid (Ahead.of HO.out HX.out (by rw [HZ.out]; exact hz0))
        repeat (first | (go_at_fn 82; refine (CX.out _).mono ?_; rintro r w1 ⟨rfl, hb⟩; simp only []; have B1 := Lib.hid (Below.trans HB.out (hb.mono hbs)); clear hb) | go_skip | go_guarded | go_step | go_upon)
        exact ⟨⟨m + 1, hi, by go_num, rfl, by omega, by omega, HA2.out, HBe.out, B1.out⟩, by simp [Go.RowKit.intOf]; omega⟩
      · have HB2 : Hid (Behind ts p m) := Lib.hid (Behind.of HO.out HX.out (by rw [HZ.out]; exact hz0))
        repeat (first | (go_at_fn 82; refine (CX.out _).mono ?_; rintro r w1 ⟨rfl, hb⟩; simp only []; have B1 := Lib.hid (Below.trans HB.out (hb.mono hbs)); clear hb) | go_skip | go_guarded | go_step | go_upon)
        exact ⟨⟨lo, m, rfl, rfl, by omega, by omega, HA.out, HB2.out, B1.out⟩, by simp [Go.RowKit.intOf]; omega⟩
    · have hltz : ¬ (lo : Int) < hi := by omega
      obtain rfl : hi = lo := by omega
      have HPl : Hid (PlaceAt ts p hi) := Lib.hid ⟨by rw [HN.out]; exact hin, HA.out, HBe.out⟩
      clear hlt
      by_cases hln : hi < n
      · have hlnz : (hi : Int) < n := by omega
        obtain ⟨g, o, rfl, hg, hc⟩ := HLr.out (by rw [HN.out]; omega)
        obtain ⟨x, hx⟩ : ∃ x, ts[hi]? = some x := ⟨ts[hi]'(by rw [HN.out]; exact hln), List.getElem?_eq_getElem _⟩
        have hmem := List.mem_of_getElem? hx
        obtain ⟨X, hX, _⟩ := txt_of x.path
        obtain ⟨D, hD, _⟩ := txt_of x.data
        obtain ⟨c0, c1, c2, c3⟩ := hc hi x hx
        rw [hX] at c0
        rw [hD] at c2
        have cx := CP.out x hmem
        unfold ndVal at cx
        rw [hX, hD] at cx
        obtain ⟨z, hz⟩ : ∃ z, NP.ordL x.path p = z := ⟨_, rfl⟩
        rw [hz] at cx
        have CX := Lib.hid cx
        obtain ⟨b, hb0⟩ : ∃ b, (z == 0) = b := ⟨_, rfl⟩
        have HSay : Hid (PlaceSays ts p hi b) := Lib.hid (by
          have e := ord_zero x.path p
          rw [hz, hb0] at e
          refine ⟨HPl.out, ?_⟩
          by_cases hxp : x.path = p
          · rw [decide_eq_true hxp] at e
            exact .inl ⟨e, x, hx, hxp⟩
          · rw [decide_eq_false hxp] at e
            refine .inr ⟨e, fun y hy => ?_⟩
            rw [hx] at hy
            cases hy
            exact hxp)
        clear hc hx hX hD hmem cx hz
        repeat (first | (go_at_fn 82; refine (CX.out _).mono ?_; rintro r w1 ⟨rfl, hb⟩; simp only []; have B1 := Lib.hid (Below.trans HB.out (hb.mono hbs)); clear hb) | go_skip | go_guarded | go_step | go_upon)
        go_ret2
        exact ⟨hi, b, rfl, HSay.out, B1.out⟩
      · have hlnz : ¬ (hi : Int) < n := by omega
        have HSay : Hid (PlaceSays ts p hi false) := Lib.hid ⟨HPl.out, .inr ⟨rfl, fun y hy => by
          have := (List.getElem?_eq_some_iff.1 hy).1
          have := HN.out
          omega⟩⟩
        clear hln
        repeat (first | go_skip | go_guarded | go_step | go_upon)
        go_ret2
        exact ⟨hi, false, rfl, HSay.out, HB.out⟩
set_option maxRecDepth 100000 in
theorem place_any (ao : Option Addr) (cap : Nat) (ts : List Nd) (p : List UInt8) (w : World) (h : LayN w ao ts) (hso : Sorted ts) (hs : SmallG ts) (hl : ts.length ≤ 1000) (hp : p.length ≤ 1048576) :
    Calls Tryz.prog 60 #[.slice ao ts.length cap, txt p] w (PlacePost ts p w) := by
  have CB := Lib.hid (bsf_any ao cap ts p w h hso hs hl hp)
  obtain ⟨n, hn⟩ : ∃ n, ts.length = n := ⟨_, rfl⟩
  obtain ⟨S, hS, _⟩ := txt_of p
  rw [hn, hS] at CB ⊢
  clear h hso hs hl hp hn hS
  go_enter Tryz.func60, Tryz.ntmps60
  repeat (first | (go_at_call 81; refine CB.out.mono ?_; rintro r w1 ⟨k, b, rfl, hs, hb⟩; simp only []; have B1 := Lib.hid hb; have HS := Lib.hid hs; clear hb hs) | go_skip | go_guarded | go_step | go_upon)
  go_ret2
  exact ⟨k, b, rfl, HS.out, B1.out⟩
set_option maxRecDepth 100000 in
set_option maxHeartbeats 1600000 in
theorem hasDir_any (ao : Option Addr) (cap : Nat) (ts : List Nd) (p : List UInt8) (w : World) (h : LayN w ao ts) (hso : Sorted ts) (hs : SmallG ts) (hl : ts.length ≤ 1000) (hp : p.length ≤ 1048576) :
    Calls Tryz.prog 57 #[.slice ao ts.length cap, txt p] w fun r w' => r = .returned (.bool (dirB ts p)) ∧ Below w.heap.size w w' := by
  have CB := Lib.hid (place_any ao cap ts p w h hso hs hl hp)
  have HL := Lib.hid h
  have HO := Lib.hid hso
  obtain ⟨n, hn⟩ : ∃ n, ts.length = n := ⟨_, rfl⟩
  have HN := Lib.hid hn
  obtain ⟨S, hS, hSd⟩ := txt_of p
  rw [hn, hS] at CB ⊢
  have HSd := Lib.hid hSd
  have hnz : (n : Int) ≤ 1000 := by omega
  clear h hso hs hl hp hn hS hSd
  go_enter Tryz.func57, Tryz.ntmps57
  repeat (first | (go_at_call 60; fail) | go_skip | go_guarded | go_step | go_upon)
  refine CB.out.mono ?_
  rintro r w1 ⟨k, b, rfl, ⟨hpl, hsay⟩, hb⟩
  simp only []
  have B1 := Lib.hid hb
  have HL1 := Lib.hid (HL.out.below hb)
  by_cases h0 : p = []
  · have hSe : S.toList.isEmpty = true := by rw [Lib.toList_data, HSd.out, h0]; rfl
    have HF : Hid (dirB ts p = true) := Lib.hid (by unfold dirB; rw [decide_eq_true h0]; rfl)
    clear hb hpl hsay h0
    repeat (first | go_skip | go_guarded | go_step | go_upon)
    go_ret
    exact ⟨by rw [HF.out]; rfl, B1.out⟩
  · have hSe : S.toList.isEmpty = false := by rw [Lib.toList_data, HSd.out]; simpa using h0
    have HD : Hid (dirB ts p = (match findN ts p with | some n => decide (n.kind = 2) | none => false)) := Lib.hid (by unfold dirB; rw [decide_eq_false h0]; rfl)
    clear h0
    rcases hsay with ⟨rfl, x, hx, hxp⟩ | ⟨rfl, hno⟩
    · have hkl := (List.getElem?_eq_some_iff.1 hx).1
      have hkz : (k : Int) < n := by have := HN.out; omega
      obtain ⟨g, o, rfl, _, hc⟩ := HL1.out (by omega)
      have c1 := (hc k x hx).k
      obtain ⟨b, hbk⟩ : ∃ b, (x.kind == 2) = b := ⟨_, rfl⟩
      have HB : Hid (dirB ts p = b) := Lib.hid (by rw [HD.out, place_yes HO.out hx hxp, ← hbk]; simp only; rw [Bool.eq_iff_iff]; simp)
      clear hb hpl hx hxp hc hkl
      repeat (first | go_skip | go_guarded | go_step | go_upon)
      go_ret
      exact ⟨by rw [HB.out]; rfl, B1.out⟩
    · have HB : Hid (dirB ts p = false) := Lib.hid (by rw [HD.out, place_no HO.out hpl hno])
      clear hb hpl hno
      repeat (first | go_skip | go_guarded | go_step | go_upon)
      go_ret
      exact ⟨by rw [HB.out]; rfl, B1.out⟩
end TG
end Go.Proofs.YtmpmmebmhffaeaaGreatDoor
