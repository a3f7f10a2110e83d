/- Layer 6: TreeBack for lists of texts of any length. -/
import Derived.Test.YtlofdhnghidcnaaDoorTreeBack
import Derived.Test.YtlofdhnghidcnaaDoorTreeWide
namespace Go.Proofs.YtlofdhnghidcnaaDoor
open Go.RowKit Go.Lib Go.BigFrame
namespace TW
open OM TP TM TR TG

set_option maxRecDepth 100000 in
set_option maxHeartbeats 3200000 in
theorem put_no (ao : Option Addr) (ca : Nat) (ts : List Nd) (p : List UInt8) (bo : Option Addr) (cb : Nat) (v : List Nd) (w : World) (he : NF.Env w) (hA : Wide w ao ca ts) (hB : Wide w bo cb v) (hp : p.length ≤ maxLen)
    (hno : treeB ts = true → rightV v = true → NP.pathL p = false) :
    Calls Tryd.prog 10 #[.slice ao ts.length ca, txt p, .slice bo v.length cb] w (PutPost (putL ts p v) w) := by
  have cC := hA.check he
  have cR : ∀ W, Below w.heap.size w W → Calls Tryd.prog 23 #[.slice bo v.length cb] W fun r w' => r = .returned (.bool (rightV v)) ∧ Below W.heap.size W w' := fun W hW => rightV_wide bo cb v W (he.below hW) (hB.below hW).lay hB.long hB.max hB.cap
  obtain ⟨S, hS, hSd⟩ := txt_of p
  have cP : ∀ W, Below w.heap.size w W → Calls Tryd.prog 24 #[.string S] W fun r w' => r = .returned (.bool (NP.pathL p)) ∧ Below W.heap.size W w' := fun W hW => path_wide S p W (he.below hW) hSd hp
  have hE0 := checkG_zero ts
  obtain ⟨n, hn⟩ : ∃ n, ts.length = n := ⟨_, rfl⟩
  obtain ⟨m, hm⟩ : ∃ m, v.length = m := ⟨_, rfl⟩
  rw [hn] at cC ⊢
  rw [hm] at cR ⊢
  rw [hS]
  obtain ⟨E, hE⟩ : ∃ E : Nat, checkG ts = E := ⟨_, rfl⟩
  obtain ⟨bR, hbR⟩ : ∃ b, rightV v = b := ⟨_, rfl⟩
  obtain ⟨bP, hbP⟩ : ∃ b, NP.pathL p = b := ⟨_, rfl⟩
  rw [hE] at cC hE0
  rw [hbR] at cR
  rw [hbP] at cP
  have HP : Hid (putL ts p v = if treeB ts = false ∨ bR = false then ([], 60) else if bP = false then ([], 11) else putL ts p v) := Lib.hid (by
    by_cases a : treeB ts = false ∨ bR = false
    · rw [if_pos a]; unfold putL; rw [hbR, if_pos a]
    · rw [if_neg a]
      by_cases b : bP = false
      · rw [if_pos b]; unfold putL; rw [hbR, hbP, if_neg a, if_pos b]
      · rw [if_neg b])
  have CC := Lib.hid cC
  have CR := Lib.hid cR
  have CP := Lib.hid cP
  clear cC cR cP hE hS hSd hn hm he hA hB hp
  by_cases e1 : (E : Int) = 0
  · have hEb : ((E : Int) != 0) = false := by simp [e1]
    have ht := hE0.1 e1
    cases bR with
    | false =>
      have HF := Lib.hid (HP.out.trans (if_pos (.inr rfl)))
      clear hE0 e1 hbR hbP hno
      go_enter Tryd.func10, Tryd.ntmps10
      repeat (first
        | (go_at_call 18; refine CC.out.mono ?_; rintro r w1 ⟨rfl, hb⟩; simp only []; have B1 := Lib.hid hb; clear hb)
        | (go_at_call 23; refine (CR.out _ B1.out).mono ?_; rintro r w2 ⟨rfl, hb⟩; simp only []; have B2 := Lib.hid (Below.trans B1.out (hb.mono B1.out.size)); clear hb)
        | go_skip | go_guarded | go_step | go_upon)
      go_ret2
      exact PutPost.nil HF.out rfl B2.out
    | true =>
      cases bP with
      | false =>
        have HF := Lib.hid ((HP.out.trans (if_neg (by rw [ht]; simp))).trans (if_pos rfl))
        clear hE0 e1 hbR hbP hno
        go_enter Tryd.func10, Tryd.ntmps10
        repeat (first
          | (go_at_call 18; refine CC.out.mono ?_; rintro r w1 ⟨rfl, hb⟩; simp only []; have B1 := Lib.hid hb; clear hb)
          | (go_at_call 23; refine (CR.out _ B1.out).mono ?_; rintro r w2 ⟨rfl, hb⟩; simp only []; have B2 := Lib.hid (Below.trans B1.out (hb.mono B1.out.size)); clear hb)
          | (go_at_call 24; refine (CP.out _ B2.out).mono ?_; rintro r w3 ⟨rfl, hb⟩; simp only []; have B3 := Lib.hid (Below.trans B2.out (hb.mono B2.out.size)); clear hb)
          | go_skip | go_guarded | go_step | go_upon)
        go_ret2
        exact PutPost.nil HF.out rfl B3.out
      | true => exact absurd (hbP.symm.trans (hno ht hbR)) (by simp)
  · have hEb : ((E : Int) != 0) = true := by simp; omega
    have HF := Lib.hid (HP.out.trans (if_pos (.inl (by cases ht : treeB ts with | false => rfl | true => exact absurd (hE0.2 ht) e1))))
    clear hE0 e1 hbR hbP hno
    go_enter Tryd.func10, Tryd.ntmps10
    repeat (first
      | (go_at_call 18; refine CC.out.mono ?_; rintro r w1 ⟨rfl, hb⟩; simp only []; have B1 := Lib.hid hb; clear hb)
      | go_skip | go_guarded | go_step | go_upon)
    go_ret2
    exact PutPost.nil HF.out rfl B1.out
theorem put_wide (ao : Option Addr) (ca : Nat) (ts : List Nd) (p : List UInt8) (bo : Option Addr) (cb : Nat) (v : List Nd) (w : World) (he : NF.Env w) (hA : Wide w ao ca ts) (hB : Wide w bo cb v) (hp : p.length ≤ maxLen) :
    Calls Tryd.prog 10 #[.slice ao ts.length ca, txt p, .slice bo v.length cb] w (PutPost (putL ts p v) w) := by
  by_cases h : treeB ts = true ∧ rightV v = true ∧ NP.pathL p = true
  · exact TL.Arg.put he (hA.tree ((tree_iff ts).1 h.1)) (hB.val ((val_iff v).1 h.2.1)) (small_path h.2.2)
  · exact put_no ao ca ts p bo cb v w he hA hB hp (fun h1 h2 => by
      cases h3 : NP.pathL p with
      | false => rfl
      | true => exact absurd ⟨h1, h2, h3⟩ h)
set_option maxRecDepth 100000 in
set_option maxHeartbeats 1600000 in
theorem back_wide (ao bo : Option Addr) (ca cb : Nat) (ts v : List Nd) (p : List UInt8) (w : World) (he : NF.Env w) (hA : Wide w ao ca ts) (hB : Wide w bo cb v) (hp : p.length ≤ maxLen) :
    Calls Tryd.prog 5 #[.slice ao ts.length ca, txt p, .slice bo v.length cb] w fun e w' => e = .returned (.bool true) ∧ Below w.heap.size w w' := by
  rcases put_cases ts p v with ⟨hok, _⟩ | ⟨e, hput⟩
  · exact TL.back_any ao bo ca cb ts v p w he (hA.tree hok.tree) (hB.val hok.val) (small_path hok.path)
  · have CA : Hid (∀ W, Below w.heap.size w W → Calls Tryd.prog 8 #[] W fun e w' => e = .returned (.bool true) ∧ Below W.heap.size W w') := Lib.hid (fun W hW => TL.awake_any W (he.below hW))
    have cP := fun W (hW : Below w.heap.size w W) => put_wide ao ca ts p bo cb v W (he.below hW) (hA.below hW) (hB.below hW) hp
    unfold PutPost at cP
    obtain ⟨S, hS, hSd⟩ := txt_of p
    obtain ⟨n, hn⟩ : ∃ n, ts.length = n := ⟨_, rfl⟩
    obtain ⟨m, hm⟩ : ∃ m, v.length = m := ⟨_, rfl⟩
    rw [hput] at cP
    simp only at cP
    rw [hn, hm, hS] at cP
    rw [hn, hm, hS]
    have CP := Lib.hid cP
    have hez : (((e + 1 : Nat) : Int) != 0) = true := by simp; omega
    obtain ⟨E, hE⟩ : ∃ E, e + 1 = E := ⟨_, rfl⟩
    rw [hE] at CP hez
    clear he hA hB hp cP hput hn hm hS hSd hE
    go_enter Tryd.func5, Tryd.ntmps5
    repeat (first
      | (go_at_call 8; refine (CA.out _ (Below.refl _ _)).mono ?_; rintro r w1 ⟨rfl, hb⟩; simp only []; have B1 := Lib.hid hb; clear hb)
      | (go_at_call 10; fail) | go_skip | go_guarded | go_step | go_upon)
    refine (CP.out _ B1.out).mono ?_
    rintro r w2 ⟨u, rfl, ho, hb⟩
    simp only []
    have B2 := Lib.hid (Below.trans B1.out (hb.mono B1.out.size))
    obtain ⟨ax, cx, rfl, _⟩ := owns_view ho
    clear hb ho CP
    repeat (first | go_skip | go_guarded | go_step | go_upon)
    go_ret
    exact ⟨rfl, B2.out⟩
end TW
end Go.Proofs.YtlofdhnghidcnaaDoor
