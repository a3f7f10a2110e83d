/- Layer 6: the contracts of the program's within, goesOn, rightNode, hasNoPath. -/
import Derived.Test.YtmpmmebmhffaeaaGreatDoorQArGo2
set_option linter.all false
set_option maxRecDepth 100000
set_option maxHeartbeats 25600000
namespace Go.Proofs.YtmpmmebmhffaeaaGreatDoor
open Go.RowKit Go.Lib Go.BigFrame
namespace TG
open OM TP TM

theorem last_some {l : List Nd} (h : 0 < l.length) : ∃ y, l[l.length - 1]? = some y ∧ l.getLast? = some y := by
  refine ⟨l[l.length - 1], List.getElem?_eq_getElem _, ?_⟩
  rw [List.getLast?_eq_getElem?]
  exact List.getElem?_eq_getElem _
set_option maxRecDepth 100000 in
set_option maxHeartbeats 3200000 in
theorem goes_any (ao : Option Addr) (cap : Nat) (ts : List Nd) (p : List UInt8) (w : World) (he : NF.Env w) (h : LayN w ao ts) (hso : Sorted ts) (hs : SmallG ts) (hl : ts.length ≤ 1000) (hp : p.length ≤ 1048576) :
    Calls Tryz.prog 37 #[.slice ao ts.length cap, txt p] w fun r w' => r = .returned (.bool (goesB ts p)) ∧ Below w.heap.size w w' := by
  have cD : ∀ W, Below w.heap.size w W → Calls Tryz.prog 57 #[.slice ao ts.length cap, txt (NP.parentL p)] W fun r w' => r = .returned (.bool (dirB ts (NP.parentL p))) ∧ Below W.heap.size W w' := fun W hW => hasDir_any ao cap ts (NP.parentL p) W (h.below hW) hso hs hl (Nat.le_trans (parent_len p) hp)
  obtain ⟨S, hS, hSd⟩ := txt_of p
  obtain ⟨U, hU, _⟩ := txt_of (NP.parentL p)
  have cP : ∀ W, Below w.heap.size w W → Calls Tryz.prog 58 #[.string S] W fun e w' => e = .returned (.string U) ∧ Below W.heap.size W w' := fun W hW => by
    have := parent_txt S p W (he.below hW) hSd hp
    rw [hU] at this
    exact this
  obtain ⟨bd, hbd⟩ : ∃ b, dirB ts (NP.parentL p) = b := ⟨_, rfl⟩
  obtain ⟨n, hn⟩ : ∃ n, ts.length = n := ⟨_, rfl⟩
  rw [hn, hU, hbd] at cD
  rw [hn, hS]
  have CD := Lib.hid cD
  have CP := Lib.hid cP
  have HG : Hid (goesB ts p = ((match ts.getLast? with | none => true | some y => decide (NP.ordL y.path p < 0)) && bd)) := Lib.hid (by unfold goesB; rw [hbd]; rfl)
  have hnl : n ≤ 1000 := by omega
  by_cases h0 : 0 < n
  · have h0z : (0 : Int) < n := by omega
    have h0d : decide ((0 : Int) < n) = true := decide_eq_true h0z
    obtain ⟨y, hy, hgl⟩ := last_some (l := ts) (by omega)
    rw [hn] at hy
    obtain ⟨j, hj⟩ : ∃ j, n - 1 = j := ⟨_, rfl⟩
    have hjz : (n : Int) - 1 = (j : Int) := by omega
    have hjn : (j : Int) < n := by omega
    rw [hj] at hy
    obtain ⟨g, o, rfl, hg, hc⟩ := h (by omega)
    obtain ⟨Y, hY, hYd⟩ := txt_of y.path
    have c0 := (hc j y hy).p
    rw [hY] at c0
    obtain ⟨z, hz⟩ : ∃ z, NP.ordL y.path p = z := ⟨_, rfl⟩
    have CO : Hid (∀ W, Calls Tryz.prog 56 #[.string Y, .string S] W fun e w' => e = .returned (.int .i64 z) ∧ Below W.heap.size W w') := Lib.hid (fun W => by
      rw [← hz]
      exact order_txt Y S y.path p W hYd hSd (hs y (List.mem_of_getElem? hy)).1 hp)
    rw [hgl] at HG
    simp only [hz] at HG
    clear hn hS hSd hU hbd cD cP he h hso hs hl hp hc hy hgl hY hYd hz hj
    by_cases hz0 : z < 0
    · have hz1 : ¬ (0 : Int) ≤ z := by omega
      have HF : Hid (goesB ts p = bd) := Lib.hid (by rw [HG.out, decide_eq_true hz0]; rfl)
      clear hz0
      go_enter Tryz.func37, Tryz.ntmps37
      repeat (first
        | (go_at_call 56; refine (CO.out _).mono ?_; rintro r w1 ⟨rfl, hb⟩; simp only []; have B1 := Lib.hid hb; clear hb)
        | (go_at_call 58; refine (CP.out _ B1.out).mono ?_; rintro r w2 ⟨rfl, hb⟩; simp only []; have B2 := Lib.hid (Below.trans B1.out (hb.mono B1.out.size)); clear hb)
        | (go_at_call 57; refine (CD.out _ B2.out).mono ?_; rintro r w3 ⟨rfl, hb⟩; simp only []; have B3 := Lib.hid (Below.trans B2.out (hb.mono B2.out.size)); clear hb)
        | go_skip | go_guarded | go_step | go_upon)
      go_ret
      exact ⟨by rw [HF.out]; rfl, B3.out⟩
    · have hz1 : (0 : Int) ≤ z := by omega
      have HF : Hid (goesB ts p = false) := Lib.hid (by rw [HG.out, decide_eq_false hz0]; rfl)
      clear hz0
      go_enter Tryz.func37, Tryz.ntmps37
      repeat (first
        | (go_at_call 56; refine (CO.out _).mono ?_; rintro r w1 ⟨rfl, hb⟩; simp only []; have B1 := Lib.hid hb; clear hb)
        | go_skip | go_guarded | go_step | go_upon)
      go_ret
      exact ⟨by rw [HF.out]; rfl, B1.out⟩
  · have h0z : ¬ (0 : Int) < n := by omega
    have h0d : decide ((0 : Int) < n) = false := decide_eq_false h0z
    have hnil : ts = [] := List.length_eq_zero_iff.1 (by omega)
    have HF : Hid (goesB ts p = bd) := Lib.hid (by rw [HG.out, hnil]; rfl)
    clear hn hS hSd hU hbd cD cP he h hso hs hl hp hnil h0
    go_enter Tryz.func37, Tryz.ntmps37
    repeat (first
      | (go_at_call 58; refine (CP.out _ (Below.refl _ _)).mono ?_; rintro r w2 ⟨rfl, hb⟩; simp only []; have B2 := Lib.hid hb; clear hb)
      | (go_at_call 57; refine (CD.out _ B2.out).mono ?_; rintro r w3 ⟨rfl, hb⟩; simp only []; have B3 := Lib.hid (Below.trans B2.out (hb.mono B2.out.size)); clear hb)
      | go_skip | go_guarded | go_step | go_upon)
    go_ret
    exact ⟨by rw [HF.out]; rfl, B3.out⟩
end TG
end Go.Proofs.YtmpmmebmhffaeaaGreatDoor
