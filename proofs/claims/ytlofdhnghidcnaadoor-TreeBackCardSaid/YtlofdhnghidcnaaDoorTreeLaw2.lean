/- Layer 6: the statements' own kept, awake; two lists of the same texts. -/
import Derived.Test.YtlofdhnghidcnaaDoorTreeLaw1
namespace Go.Proofs.YtlofdhnghidcnaaDoor
open Go.RowKit Go.Lib Go.BigFrame
namespace TL
open OM TP TM TR TG

/-- A slice of texts lies there. -/
def LayS (W : World) (ao : Option Addr) (ls : List (List UInt8)) : Prop :=
  0 < ls.length → ∃ g o, ao = some ⟨g, o, none⟩ ∧ g < W.heap.size ∧ ∀ (k : Nat) (t : List UInt8), ls[k]? = some t → W.cell? ⟨g, o + k, none⟩ = some (txt t)
theorem LayS.below {W W' : World} {ao : Option Addr} {ls : List (List UInt8)} (h : LayS W ao ls) (hb : Below W.heap.size W W') : LayS W' ao ls := fun h0 => by
  obtain ⟨g, o, e, hlt, hc⟩ := h h0
  exact ⟨g, o, e, Nat.lt_of_lt_of_le hlt hb.size, fun k t hk => (hb.cell (p := ⟨g, o + k, none⟩) hlt).trans (hc k t hk)⟩
theorem lays_of {w : World} {B : Nat} {v : Value} {ls : List (List UInt8)} (h : w.ownsRow B 9 1 v ls.length (ls.map txt)) : ∃ ao c, v = .slice ao ls.length c ∧ LayS w ao ls := by
  obtain ⟨ao, c, rfl, hx⟩ := owns_view h
  refine ⟨ao, c, rfl, fun h0 => ?_⟩
  obtain ⟨g, rfl, hg, _, hc⟩ := hx h0
  refine ⟨g, 0, rfl, hg, fun k t hk => ?_⟩
  have hkl := (List.getElem?_eq_some_iff.1 hk).1
  rw [Nat.zero_add, hc k (by omega), List.getElem?_map, hk]
  rfl
set_option maxRecDepth 100000 in
set_option maxHeartbeats 1600000 in
theorem texts_same (a1 a2 : Option Addr) (c1 c2 : Nat) (ls : List (List UInt8)) (w : World) (h1 : LayS w a1 ls) (h2 : LayS w a2 ls) (hle : ls.length ≤ maxLen) :
    Calls Tryd.prog 15 #[.slice a1 ls.length c1, .slice a2 ls.length c2] w fun e w' => e = .returned (.bool true) ∧ Below w.heap.size w w' := by
  obtain ⟨n, hn⟩ : ∃ n, ls.length = n := ⟨_, rfl⟩
  have HN := Lib.hid hn
  have H1 := Lib.hid h1
  have H2 := Lib.hid h2
  unfold maxLen at hle
  rw [hn] at hle ⊢
  clear h1 h2 hn
  go_enter Tryd.func15, Tryd.ntmps15
  repeat (first | go_skip | go_guarded | go_step | go_upon)
  go_loopw [5] (fun s3 wr => ∃ k : Nat, s3 = .int .i64 k ∧ k ≤ n ∧ Below w.heap.size w wr) (fun s3 _ => n - (Go.RowKit.intOf s3).toNat)
  case atStart => exact ⟨0, rfl, Nat.zero_le _, Below.refl _ _⟩
  case round =>
    obtain ⟨k, rfl, hk, hb⟩ := hrel
    have HB := Lib.hid hb
    have HL1 := Lib.hid (H1.out.below hb)
    have HL2 := Lib.hid (H2.out.below hb)
    clear hb
    by_cases hlt : k < n
    · have hkz : (k : Int) < n := by omega
      obtain ⟨g1, o1, rfl, _, hc1⟩ := HL1.out (by rw [HN.out]; omega)
      obtain ⟨g2, o2, rfl, _, hc2⟩ := HL2.out (by rw [HN.out]; omega)
      obtain ⟨x, hx⟩ : ∃ x, ls[k]? = some x := ⟨ls[k]'(by rw [HN.out]; exact hlt), List.getElem?_eq_getElem _⟩
      have d1 := hc1 k x hx
      have d2 := hc2 k x hx
      unfold txt at d1 d2
      obtain ⟨T, hT⟩ : ∃ T : ByteArray, ⟨x.toArray⟩ = T := ⟨_, rfl⟩
      rw [hT] at d1 d2
      have hTT : (T.toList == T.toList) = true := by simp
      clear hc1 hc2 hx hT hlt
      repeat (first | go_skip | go_guarded | go_step | go_upon)
      go_quiet (fail)
      rename_i nq
      have HB3 : Hid (Below w.heap.size w (wr.drewN nq)) := Lib.hid ⟨HB.out.os, HB.out.tape, HB.out.output, HB.out.size, HB.out.block⟩
      generalize wr.drewN nq = w3 at HB3 ⊢
      repeat (first | go_skip | go_guarded | go_step | go_upon)
      exact ⟨⟨k + 1, by go_num, by omega, HB3.out⟩, by simp [Go.RowKit.intOf]; omega⟩
    · have hkz : ¬ (k : Int) < n := by omega
      clear hlt
      repeat (first | go_skip | go_guarded | go_step | go_upon)
      go_ret
      exact ⟨rfl, HB.out⟩
set_option maxRecDepth 100000 in
set_option maxHeartbeats 1600000 in
theorem kept_any (ts : List Nd) (B g c : Nat) (ao : Option Addr) (ca : Nat) (w : World) (h : LentAt ts B g c w) (hl : LayN w ao ts) (hn : ts.length ≤ 1048576) :
    Calls Tryd.prog 13 #[.slice (some ⟨g, 0, none⟩) ts.length c, .slice ao ts.length ca] w fun e w' => e = .returned (.bool true) ∧ Below w.heap.size w w' := by
  have hg : g < w.heap.size := by
    rcases h.2 with ⟨e, _⟩ | ⟨g', cap, cur, e, _, hgg, _⟩
    · cases e
    · simp at e
      rw [← e.1] at hgg
      exact (Array.getElem?_eq_some_iff.1 hgg).1
  have cS := rsame_any (some ⟨g, 0, none⟩) ao c ca ts ts w h.lay hl (by unfold maxLen; omega) (by unfold maxLen; omega)
  rw [decide_eq_true (rfl : ts = ts)] at cS
  obtain ⟨t1, t2⟩ := h.tail
  have hc := h.cap
  obtain ⟨n, hnn⟩ : ∃ n, ts.length = n := ⟨_, rfl⟩
  rw [hnn] at cS t1 t2 hc hn ⊢
  have CS := Lib.hid cS
  have hnz : (n : Int) ≤ 1048576 := by omega
  have h2 : ((n + 2 : Nat) : Int) = (n : Int) + 2 := by omega
  have h3 : (n : Int) < ((n : Int) + 2) := by omega
  have h4 : (n : Int) + 1 < ((n : Int) + 2) := by omega
  have hsl := sl_to ndsl_node (some ⟨g, 0, none⟩) n (n + 2) c ((n : Int) + 2) (by omega) hc
  have hx : txt spare.path = .string ⟨#[115, 112, 97, 114, 101]⟩ := rfl
  have hy : txt room.path = .string ⟨#[114, 111, 111, 109]⟩ := rfl
  rw [hx] at t1
  rw [hy] at t2
  have HT : Hid (∀ W, Below w.heap.size w W → W.cell? ⟨g, n * 4, none⟩ = some (.string ⟨#[115, 112, 97, 114, 101]⟩) ∧ W.cell? ⟨g, (n + 1) * 4, none⟩ = some (.string ⟨#[114, 111, 111, 109]⟩)) := Lib.hid (fun W hW =>
    ⟨(hW.cell (p := ⟨g, n * 4, none⟩) hg).trans t1, (hW.cell (p := ⟨g, (n + 1) * 4, none⟩) hg).trans t2⟩)
  clear h hl cS t1 t2 hx hy hnn
  go_enter Tryd.func13, Tryd.ntmps13
  repeat (first | (go_at_call 12; refine CS.out.mono ?_; rintro r w1 ⟨rfl, hb⟩; simp only []; obtain ⟨s1, s2⟩ := HT.out w1 hb; have B1 := Lib.hid hb; clear hb) | go_skip | go_guarded | go_step | go_upon)
  go_ret
  exact ⟨rfl, B1.out⟩
def nA : Nd := ⟨[97], 2, [], 0⟩
def nB : Nd := ⟨[97, 47, 98], 1, [120], 0⟩
theorem awake_tree : treeB [nA, nB] = true := by decide +kernel
theorem awake_get : getG [nA, nB] [97, 47, 98] = .returned (.tuple #[.agg #[.string ⟨#[97, 47, 98]⟩, .int .i64 1, .string ⟨#[120]⟩, .int .i64 0], .bool true]) := by
  unfold getG
  rw [show getL [nA, nB] [97, 47, 98] = some nB by decide +kernel]
  rfl
theorem awake_names : namesL [nA, nB] [97] = [[98]] := by decide +kernel
set_option maxRecDepth 100000 in
set_option maxHeartbeats 3200000 in
theorem awake_any (w : World) (he : NF.Env w) : Calls Tryd.prog 8 #[] w fun e w' => e = .returned (.bool true) ∧ Below w.heap.size w w' := by
  obtain ⟨w0, hw0⟩ : ∃ w0, w.alloc (.cells #[.string ⟨#[97]⟩, .int .i64 2, .string ⟨#[]⟩, .int .i64 0, .string ⟨#[97, 47, 98]⟩, .int .i64 1, .string ⟨#[120]⟩, .int .i64 0] 32) = w0 := ⟨_, rfl⟩
  have hb0 : Below w.heap.size w w0 := by rw [← hw0]; exact (Below.refl _ _).alloc (Nat.le_refl _) _
  have hlay : LayN w0 (some ⟨w.heap.size, 0, none⟩) [nA, nB] := fun _ => by
    have h := heap_alloc_new w (.cells #[.string ⟨#[97]⟩, .int .i64 2, .string ⟨#[]⟩, .int .i64 0, .string ⟨#[97, 47, 98]⟩, .int .i64 1, .string ⟨#[120]⟩, .int .i64 0] 32)
    rw [hw0] at h
    refine ⟨w.heap.size, 0, rfl, by rw [← hw0]; simp, fun k n hk => ?_⟩
    match k with
    | 0 =>
      simp at hk
      subst hk
      exact ⟨by rw [cell_of_row _ _ _ _ _ _ h]; rfl, by rw [cell_of_row _ _ _ _ _ _ h]; rfl, by rw [cell_of_row _ _ _ _ _ _ h]; rfl, by rw [cell_of_row _ _ _ _ _ _ h]; rfl⟩
    | 1 =>
      simp at hk
      subst hk
      exact ⟨by rw [cell_of_row _ _ _ _ _ _ h]; rfl, by rw [cell_of_row _ _ _ _ _ _ h]; rfl, by rw [cell_of_row _ _ _ _ _ _ h]; rfl, by rw [cell_of_row _ _ _ _ _ _ h]; rfl⟩
    | k + 2 => simp at hk
  have hsm : SmallG [nA, nB] := fun n hn => by
    simp at hn
    rcases hn with rfl | rfl <;> decide
  have CG : Hid (∀ W, Below w0.heap.size w0 W → Calls Tryd.prog 22 #[.slice (some ⟨w.heap.size, 0, none⟩) 2 2, .string ⟨#[97, 47, 98]⟩] W fun r w' => r = .returned (.tuple #[.agg #[.string ⟨#[97, 47, 98]⟩, .int .i64 1, .string ⟨#[120]⟩, .int .i64 0], .bool true]) ∧ Below W.heap.size W w') := Lib.hid (fun W hW => by
    have := get_any (some ⟨w.heap.size, 0, none⟩) 2 [nA, nB] [97, 47, 98] W ((he.below hb0).below hW) (hlay.below hW) hsm (by decide) (by decide) (by decide)
    rw [awake_get] at this
    exact this)
  have CN : Hid (∀ W, Below w0.heap.size w0 W → Calls Tryd.prog 21 #[.slice (some ⟨w.heap.size, 0, none⟩) 2 2, .string ⟨#[97]⟩] W fun r w' => ∃ v, r = .returned v ∧ w'.ownsRow W.heap.size 9 1 v 1 [txt [98]] ∧ Below W.heap.size W w') := Lib.hid (fun W hW => by
    have := names_any (some ⟨w.heap.size, 0, none⟩) 2 [nA, nB] [97] W ((he.below hb0).below hW) (hlay.below hW) hsm (by decide) (by decide) (by decide)
    unfold NamesPost at this
    rw [awake_names] at this
    exact this)
  have CC : Hid (∀ W, Below w0.heap.size w0 W → Calls Tryd.prog 18 #[.slice (some ⟨w.heap.size, 0, none⟩) 2 2] W fun r w' => r = .returned (.int .i64 0) ∧ Below W.heap.size W w') := Lib.hid (fun W hW => by
    have := check_any (some ⟨w.heap.size, 0, none⟩) 2 [nA, nB] W ((he.below hb0).below hW) (hlay.below hW) hsm (by decide) (by decide)
    rw [check_yes awake_tree] at this
    exact this)
  have B0 := Lib.hid hb0
  have e1 : ((⟨#[120]⟩ : ByteArray).toList == (⟨#[120]⟩ : ByteArray).toList) = true := by simp
  have e2 : ((⟨#[98]⟩ : ByteArray).toList == (⟨#[98]⟩ : ByteArray).toList) = true := by simp
  clear he hlay hb0 hsm
  go_enter Tryd.func8, Tryd.ntmps8
  repeat (first | (go_at_call 22; fail) | go_skip | go_guarded | go_step | go_upon)
  refine (CG.out _ (Below.refl _ _)).mono ?_
  rintro r w1 ⟨rfl, hb1⟩
  simp only []
  have W1 := Lib.hid hb1
  have h12 : Below w1.heap.size w1 (w1.alloc (.cells #[.string ⟨#[97, 47, 98]⟩, .int .i64 1, .string ⟨#[120]⟩, .int .i64 0] 32)) := (Below.refl _ _).alloc (Nat.le_refl _) _
  obtain ⟨_, _, a2, _⟩ := box4 w1 (.string ⟨#[97, 47, 98]⟩) (.int .i64 1) (.string ⟨#[120]⟩) (.int .i64 0) 32
  have W2 := Lib.hid (Below.trans W1.out (h12.mono W1.out.size))
  have A2 := Lib.hid a2
  clear hb1 a2 h12
  repeat (first | (go_at_call 21; fail) | go_skip | go_guarded | go_step | go_upon)
  refine (CN.out _ W2.out).mono ?_
  rintro r w3 ⟨u, rfl, hown, hb3⟩
  simp only []
  have W3 := Lib.hid (Below.trans W2.out (hb3.mono W2.out.size))
  have a3 : w3.cell? ⟨w1.heap.size, 2, none⟩ = some (.string ⟨#[120]⟩) := (hb3.cell (p := ⟨w1.heap.size, 2, none⟩) (by simp)).trans A2.out
  obtain ⟨ao, c, rfl, hv⟩ := owns_view hown
  obtain ⟨g, rfl, _, _, hc⟩ := hv (by omega)
  have c3 := hc 0 (by omega)
  have c3' : w3.cell? ⟨g, 0, none⟩ = some (.string ⟨#[98]⟩) := c3.trans rfl
  clear hb3 hown hc c3 hv
  repeat (first | (go_at_call 18; refine (CC.out _ W3.out).mono ?_; rintro r w4 ⟨rfl, hb⟩; simp only []; have W4 := Lib.hid (Below.trans W3.out (hb.mono W3.out.size)); clear hb) | go_skip | go_guarded | go_step | go_upon)
  go_ret
  exact ⟨rfl, Below.trans B0.out (W4.out.mono B0.out.size)⟩
end TL
end Go.Proofs.YtlofdhnghidcnaaDoor
