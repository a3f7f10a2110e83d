/- Layer 6: TreeNames for lists of texts of any length. -/
import Derived.Test.YtlofdhnghidcnaaDoorTreeNames
import Derived.Test.YtlofdhnghidcnaaDoorTreeWide
namespace Go.Proofs.YtlofdhnghidcnaaDoor
open Go.RowKit Go.Lib Go.BigFrame
namespace TW
open OM TP TM TR TG TL

set_option maxRecDepth 100000 in
set_option maxHeartbeats 1600000 in
theorem names_no (ao : Option Addr) (cap : Nat) (ts : List Nd) (p : List UInt8) (w : World) (he : NF.Env w) (h : Wide w ao cap ts) (ht : treeB ts = false) :
    Calls Tryd.prog 21 #[.slice ao ts.length cap, txt p] w (NamesPost ts p w) := by
  have cC := h.check he
  rw [check_no ht] at cC
  have CC := Lib.hid cC
  have HF := Lib.hid (names_none (ts := ts) (p := p) ht)
  obtain ⟨n, hn⟩ : ∃ n, ts.length = n := ⟨_, rfl⟩
  rw [hn] at CC ⊢
  obtain ⟨S, hS, hSd⟩ := txt_of p
  rw [hS]
  clear he h ht cC hn hS hSd
  go_enter Tryd.func21, Tryd.ntmps21
  repeat (first | (go_at_call 18; refine CC.out.mono ?_; rintro r w1 ⟨rfl, hb⟩; simp only []; have B1 := Lib.hid hb; clear hb) | go_skip | go_guarded | go_step | go_upon)
  go_ret
  exact NamesPost.nil HF.out B1.out
set_option maxRecDepth 100000 in
set_option maxHeartbeats 1600000 in
theorem tnames_wide (ao : Option Addr) (ca : Nat) (ts : List Nd) (w : World) (he : NF.Env w) (hA : Wide w ao ca ts) :
    Calls Tryd.prog 6 #[.slice ao ts.length ca] w fun e w' => e = .returned (.bool true) ∧ Below w.heap.size w w' := by
  cases ht : treeB ts with
  | true => exact tnames_any ao ca ts w he (hA.tree ((tree_iff ts).1 ht))
  | false =>
    have CA : Hid (∀ W, Below w.heap.size w W → Calls Tryd.prog 8 #[] W fun e w' => e = .returned (.bool true) ∧ Below W.heap.size W w') := Lib.hid (fun W hW => awake_any W (he.below hW))
    have CC := fun W (hW : Below w.heap.size w W) => (hA.below hW).check (he.below hW)
    have cN := fun W (hW : Below w.heap.size w W) => names_no ao ca ts [] W (he.below hW) (hA.below hW) ht
    rw [check_no ht] at CC
    have hnm : namesL ts [] = [] := names_none ht
    unfold NamesPost at cN
    rw [hnm] at cN
    obtain ⟨n, hn⟩ : ∃ n, ts.length = n := ⟨_, rfl⟩
    rw [hn] at CC cN ⊢
    have CCh := Lib.hid CC
    have CN : Hid (∀ W, Below w.heap.size w W → Calls Tryd.prog 21 #[.slice ao n ca, .string ⟨#[]⟩] W fun r w' => ∃ v, r = .returned v ∧ w'.ownsRow W.heap.size 9 1 v 0 [] ∧ Below W.heap.size W w') := Lib.hid cN
    clear hnm cN CC he hA ht hn
    go_enter Tryd.func6, Tryd.ntmps6
    repeat (first
      | (go_at_call 8; refine (CA.out _ (Below.refl _ _)).mono ?_; rintro r w1 ⟨rfl, hb⟩; simp only []; have B1 := Lib.hid hb; clear hb)
      | (go_at_call 18; refine (CCh.out _ B1.out).mono ?_; rintro r w2 ⟨rfl, hb⟩; simp only []; have B2 := Lib.hid (Below.trans B1.out (hb.mono B1.out.size)); clear hb)
      | (go_at_call 21; refine (CN.out _ B2.out).mono ?_; rintro r w3 ⟨u, rfl, ho, hb⟩; simp only []; have B3 := Lib.hid (Below.trans B2.out (hb.mono B2.out.size)); obtain ⟨a3, c3, rfl, _⟩ := owns_view ho; clear hb ho)
      | go_skip | go_guarded | go_step | go_upon)
    go_ret
    exact ⟨rfl, B3.out⟩
end TW
end Go.Proofs.YtlofdhnghidcnaaDoor
