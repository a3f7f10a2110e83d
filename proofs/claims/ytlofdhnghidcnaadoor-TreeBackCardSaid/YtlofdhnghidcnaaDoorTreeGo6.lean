/- Layer 6: the contracts of the program's Right, Get. -/
import Derived.Test.YtlofdhnghidcnaaDoorTreeGo5
namespace Go.Proofs.YtlofdhnghidcnaaDoor
open Go.RowKit Go.Lib Go.BigFrame
namespace TG
open OM TP TM

theorem lay_first {W : World} {ao : Option Addr} {x : Nd} {r : List Nd} (h : LayN W ao (x :: r)) : ∃ g o, ao = some ⟨g, o, none⟩ ∧ g < W.heap.size ∧ NodeAt W g o x := by
  obtain ⟨g, o, e, hg, hc⟩ := h (by simp)
  have := hc 0 x rfl
  rw [Nat.zero_mul, Nat.add_zero] at this
  exact ⟨g, o, e, hg, this⟩
set_option maxRecDepth 100000 in
set_option maxHeartbeats 3200000 in
theorem rightV_any (ao : Option Addr) (cap : Nat) (v : List Nd) (w : World) (he : NF.Env w) (h : LayN w ao v) (hs : SmallG v) (hl : v.length ≤ maxLen) (hcap : v.length ≤ cap) :
    Calls Tryd.prog 23 #[.slice ao v.length cap] w fun r w' => r = .returned (.bool (rightV v)) ∧ Below w.heap.size w w' := by
  cases v with
  | nil =>
    go_enter Tryd.func23, Tryd.ntmps23
    repeat (first | go_skip | go_guarded | go_step | go_upon)
    go_ret
    exact ⟨rfl, Below.refl _ _⟩
  | cons x r =>
    have HL := Lib.hid h
    have HE := Lib.hid he
    have hsl := sl_from ndsl_node ao (x :: r) 1 cap (by simp) hcap
    obtain ⟨ao', c', hsl, hlay, hc', _⟩ := hsl
    have HLt : Hid (∀ W, Below w.heap.size w W → LayN W ao' r) := Lib.hid (fun W hW => hlay W (HL.out.below hW))
    obtain ⟨g, o, rfl, hg, hnd⟩ := lay_first h
    obtain ⟨n, hn⟩ : ∃ n, (x :: r).length = n := ⟨_, rfl⟩
    have hrl : r.length + 1 = n := by rw [← hn]; rfl
    obtain ⟨q, hq⟩ : ∃ q, n - 1 = q := ⟨_, rfl⟩
    have hrq : r.length = q := by omega
    rw [hn] at hl hcap hsl hc' ⊢
    rw [hq] at hsl hc'
    have hsl1 : ∀ W, (Instr.slice 22 (.slice (some ⟨g, o, none⟩) n cap) (some (.int .i64 1)) none none).run Tryd.prog W = .ok (.slice ao' q c') W := hsl
    clear hsl
    unfold maxLen at hl
    have hnz : (n : Int) ≤ 9223372036854775807 := by omega
    have hn0 : ((n : Int) == 0) = false := by simp; omega
    have hnp : (0 : Int) < n := by omega
    obtain ⟨hs1, hs2⟩ := hs x (List.mem_cons_self ..)
    obtain ⟨X, hX, hXd⟩ := txt_of x.path
    obtain ⟨D, hD, _⟩ := txt_of x.data
    obtain ⟨kx, hkx⟩ : ∃ kx, x.kind = kx := ⟨_, rfl⟩
    obtain ⟨mx, hmx⟩ : ∃ mx, x.mode = mx := ⟨_, rfl⟩
    have CL : Hid (∀ W, Below w.heap.size w W → W.cell? ⟨g, o, none⟩ = some (.string X) ∧ W.cell? ⟨g, o + 1, none⟩ = some (.int .i64 kx) ∧ W.cell? ⟨g, o + 2, none⟩ = some (.string D) ∧ W.cell? ⟨g, o + 3, none⟩ = some (.int .i64 mx)) := Lib.hid (fun W hW => by
      obtain ⟨p, k, d, m⟩ := hnd.below hg hW
      rw [hX] at p
      rw [hD] at d
      exact ⟨p, by rw [← hkx]; exact k, d, by rw [← hmx]; exact m⟩)
    obtain ⟨e0, e1, e2, e3⟩ := CL.out w (Below.refl _ _)
    obtain ⟨b2, hb2⟩ : ∃ b, rightB x = b := ⟨_, rfl⟩
    have C2 : Hid (∀ W, Calls Tryd.prog 37 #[.agg #[.string X, .int .i64 kx, .string D, .int .i64 mx]] W fun r w' => r = .returned (.bool b2) ∧ Below W.heap.size W w') := Lib.hid (fun W => by
      have := right_any x W hs2
      unfold ndVal at this
      rw [hX, hD, hkx, hmx, hb2] at this
      exact this)
    obtain ⟨E, hE⟩ : ∃ E : Nat, checkG r = E := ⟨_, rfl⟩
    have C3 : Hid (∀ W, Below w.heap.size w W → Calls Tryd.prog 18 #[.slice ao' q c'] W fun r w' => r = .returned (.int .i64 (E : Nat)) ∧ Below W.heap.size W w') := Lib.hid (fun W hW => by
      have := check_any ao' c' r W (HE.out.below hW) (HLt.out W hW) (fun m hm => hs m (List.mem_cons_of_mem _ hm)) (by unfold maxLen; omega) (by omega)
      rw [hrq, hE] at this
      exact this)
    have HR : Hid (rightV (x :: r) = (decide (x.path = []) && b2 && decide (n ≤ 1000) && (decide (r = []) || (decide (kx = 2) && treeB r)))) := Lib.hid (by unfold rightV; simp only; rw [hb2, hrl, hkx])
    by_cases hm : n ≤ 1000
    · have hmz : ¬ (1000 : Int) < n := by omega
      have hmd : decide ((1000 : Int) < n) = false := decide_eq_false hmz
      by_cases hp : x.path = []
      · have hXe : X.toList.isEmpty = true := by rw [Lib.toList_data, hXd, hp]; rfl
        cases b2 with
        | false =>
          have HF : Hid (rightV (x :: r) = false) := Lib.hid (by rw [HR.out]; simp)
          clear hX hXd hD hkx hmx hb2 hs1 hs2 hnd hn hrl hl hcap hs h hp he hE hq hrq hlay hm
          go_enter Tryd.func23, Tryd.ntmps23
          repeat (first | (go_at_call 37; refine (C2.out _).mono ?_; rintro r w2 ⟨rfl, hb⟩; simp only []; have W2 := Lib.hid hb; clear hb) | go_skip | go_guarded | go_step | go_upon)
          go_ret
          exact ⟨by rw [HF.out]; rfl, W2.out⟩
        | true =>
          by_cases hk : kx = 2
          · have hkb : (kx == 2) = true := by simp [hk]
            obtain ⟨b, hb⟩ : ∃ b, ((E : Int) == 0) = b := ⟨_, rfl⟩
            have HF : Hid (rightV (x :: r) = b) := Lib.hid (by
              rw [HR.out, decide_eq_true hp, decide_eq_true hm, decide_eq_true hk, ← hb, ← hE]
              unfold checkG
              by_cases hr : r = []
              · rw [hr]; rfl
              · rw [decide_eq_false hr]; cases treeB r <;> simp)
            clear hX hXd hD hkx hmx hb2 hs1 hs2 hnd hn hrl hl hcap hs h hp he hE hq hrq hlay hm hk
            go_enter Tryd.func23, Tryd.ntmps23
            repeat (first | (go_at_call 37; refine (C2.out _).mono ?_; rintro r w2 ⟨rfl, hb'⟩; simp only []; obtain ⟨e4, e5, e6, e7⟩ := CL.out w2 hb'; have W2 := Lib.hid hb'; clear hb') | (go_at_call 18; refine (C3.out _ W2.out).mono ?_; rintro r w3 ⟨rfl, hb'⟩; simp only []; have W3 := Lib.hid (Below.trans W2.out (hb'.mono W2.out.size)); clear hb') | go_skip | go_guarded | go_step | go_upon)
            go_ret
            exact ⟨by rw [HF.out]; rfl, W3.out⟩
          · have hkb : (kx == 2) = false := by simp [hk]
            obtain ⟨b, hb⟩ : ∃ b, ((n : Int) == 1) = b := ⟨_, rfl⟩
            have HF : Hid (rightV (x :: r) = b) := Lib.hid (by
              rw [HR.out, decide_eq_true hp, decide_eq_true hm, decide_eq_false hk, ← hb]
              by_cases hr : r = []
              · rw [decide_eq_true hr]
                have : n = 1 := by rw [← hrl, hr]; rfl
                rw [this]; rfl
              · rw [decide_eq_false hr]
                have : 0 < r.length := List.length_pos_iff.2 hr
                have h2 : ((n : Int) == 1) = false := by simp; omega
                rw [h2]; rfl)
            clear hX hXd hD hkx hmx hb2 hs1 hs2 hnd hn hrl hl hcap hs h hp he hE hq hrq hlay hm hk
            go_enter Tryd.func23, Tryd.ntmps23
            repeat (first | (go_at_call 37; refine (C2.out _).mono ?_; rintro r w2 ⟨rfl, hb'⟩; simp only []; obtain ⟨e4, e5, e6, e7⟩ := CL.out w2 hb'; have W2 := Lib.hid hb'; clear hb') | go_skip | go_guarded | go_step | go_upon)
            go_ret
            exact ⟨by rw [HF.out]; rfl, W2.out⟩
      · have hXe : X.toList.isEmpty = false := by rw [Lib.toList_data, hXd]; simpa using hp
        have HF : Hid (rightV (x :: r) = false) := Lib.hid (by rw [HR.out, decide_eq_false hp]; simp)
        clear hX hXd hD hkx hmx hb2 hs1 hs2 hnd hn hrl hl hcap hs h hp he hE hq hrq hlay hm
        go_enter Tryd.func23, Tryd.ntmps23
        repeat (first | go_skip | go_guarded | go_step | go_upon)
        go_ret
        exact ⟨by rw [HF.out]; rfl, Below.refl _ _⟩
    · have hmz : (1000 : Int) < n := by omega
      have hmd : decide ((1000 : Int) < n) = true := decide_eq_true hmz
      have HF : Hid (rightV (x :: r) = false) := Lib.hid (by rw [HR.out, decide_eq_false hm]; simp)
      clear hX hXd hD hkx hmx hb2 hs1 hs2 hnd hn hrl hl hcap hs h he hE hq hrq hlay hm
      go_enter Tryd.func23, Tryd.ntmps23
      repeat (first | go_skip | go_guarded | go_step | go_upon)
      go_ret
      exact ⟨by rw [HF.out]; rfl, Below.refl _ _⟩
def zeroG : Nd := ⟨[], 0, [], 0⟩
def getG (ts : List Nd) (p : List UInt8) : Ending := match getL ts p with
  | some n => .returned (.tuple #[ndVal n, .bool true])
  | none => .returned (.tuple #[ndVal zeroG, .bool false])
theorem row4 {W : World} {b : Nat} {a0 a1 a2 a3 : Value} {t : TypeId} (h : W.heap[b]? = some (.cells #[a0, a1, a2, a3] t (0, 0))) :
    W.cell? ⟨b, 0, none⟩ = some a0 ∧ W.cell? ⟨b, 1, none⟩ = some a1 ∧ W.cell? ⟨b, 2, none⟩ = some a2 ∧ W.cell? ⟨b, 3, none⟩ = some a3 ∧ ∀ j, W.frozen? ⟨b, j, none⟩ = false :=
  ⟨by rw [cell_of_row W b 0 _ _ _ h]; rfl, by rw [cell_of_row W b 1 _ _ _ h]; rfl, by rw [cell_of_row W b 2 _ _ _ h]; rfl, by rw [cell_of_row W b 3 _ _ _ h]; rfl, fun j => frozen_of_row W b j _ _ h⟩
theorem below4g {w W : World} (h : Below w.heap.size w W) (a b c d : Value) : Below w.heap.size w ((((W.setCell ⟨w.heap.size, 0, none⟩ a).setCell ⟨w.heap.size, 1, none⟩ b).setCell ⟨w.heap.size, 2, none⟩ c).setCell ⟨w.heap.size, 3, none⟩ d) :=
  (((h.setCell (p := ⟨w.heap.size, 0, none⟩) (Nat.le_refl _) _).setCell (p := ⟨w.heap.size, 1, none⟩) (Nat.le_refl _) _).setCell (p := ⟨w.heap.size, 2, none⟩) (Nat.le_refl _) _).setCell (p := ⟨w.heap.size, 3, none⟩) (Nat.le_refl _) _
theorem checkG_zero (ts : List Nd) : ((checkG ts : Nat) : Int) = 0 ↔ treeB ts = true := by
  unfold checkG
  cases treeB ts <;> simp
set_option maxRecDepth 100000 in
set_option maxHeartbeats 3200000 in
theorem get_any (ao : Option Addr) (cap : Nat) (ts : List Nd) (p : List UInt8) (w : World) (he : NF.Env w) (h : LayN w ao ts) (hs : SmallG ts) (hl : ts.length ≤ maxLen) (hcap : ts.length ≤ cap) (hp : p.length ≤ 1048576) :
    Calls Tryd.prog 22 #[.slice ao ts.length cap, txt p] w fun r w' => r = getG ts p ∧ Below w.heap.size w w' := by
  have hW0 : Below w.heap.size w (w.alloc (.cells #[.string ⟨#[]⟩, .int .i64 0, .string ⟨#[]⟩, .int .i64 0] 32)) := (Below.refl _ _).alloc (Nat.le_refl _) _
  have cC := check_any ao cap ts _ (he.below hW0) (h.below hW0) hs hl hcap
  have cP : treeB ts = true → ∀ W, Below w.heap.size w W → Calls Tryd.prog 44 #[.slice ao ts.length cap, txt p] W (PlacePost ts p W) := fun ht W hW => place_any ao cap ts p W (h.below hW) ((tree_iff ts).1 ht).sorted hs ((tree_iff ts).1 ht).len hp
  have cF : treeB ts = true → Sorted ts := fun ht => ((tree_iff ts).1 ht).sorted
  obtain ⟨n, hn⟩ : ∃ n, ts.length = n := ⟨_, rfl⟩
  have HN := Lib.hid hn
  have HL := Lib.hid h
  unfold maxLen at hl
  rw [hn] at hl cC cP ⊢
  have hnz : (n : Int) ≤ 9223372036854775807 := by omega
  obtain ⟨S, hS, _⟩ := txt_of p
  obtain ⟨E, hE⟩ : ∃ E : Nat, checkG ts = E := ⟨_, rfl⟩
  have hE0 := checkG_zero ts
  rw [hS] at cP ⊢
  rw [hE] at cC hE0
  have CP := Lib.hid cP
  have CC := Lib.hid cC
  have HE := Lib.hid hE0
  have CF := Lib.hid cF
  have HW0 := Lib.hid hW0
  clear h hn hS hl cP cC hE hs hE0 hcap hp he cF hW0
  by_cases hE1 : (E : Int) = 0
  · have hEb : ((E : Int) != 0) = false := by simp [hE1]
    have HT := Lib.hid (HE.out.1 hE1)
    clear hE1
    go_enter Tryd.func22, Tryd.ntmps22
    repeat (first | (go_at_call 18; refine CC.out.mono ?_; rintro r w1 ⟨rfl, hb⟩; simp only []; have HB1 := Lib.hid (Below.trans HW0.out (hb.mono HW0.out.size)); have r1 := (hb.block w.heap.size (by simp)).trans (heap_alloc_new w _); have hz1 : w.heap.size < w1.heap.size := (by have := hb.size; simp at this; omega); clear hb) | (go_at_call 44; fail) | go_skip | go_guarded | go_step | go_upon)
    refine (CP.out HT.out _ HB1.out).mono ?_
    rintro r w2 ⟨k, b, rfl, ⟨hpl, hsay⟩, hb⟩
    simp only []
    have HB2 := Lib.hid (Below.trans HB1.out (hb.mono HB1.out.size))
    obtain ⟨t0, t1, t2, t3, tf⟩ := row4 ((hb.block _ hz1).trans r1)
    have HL2 := Lib.hid (HL.out.below HB2.out)
    rcases hsay with ⟨rfl, x, hx, hxp⟩ | ⟨rfl, hno⟩
    · have hkl := (List.getElem?_eq_some_iff.1 hx).1
      have hkz : (k : Int) < n := by have := HN.out; omega
      obtain ⟨g, o, rfl, hg, hc⟩ := HL2.out (by omega)
      obtain ⟨c0, c1, c2, c3⟩ := hc k x hx
      obtain ⟨XP, hXP, _⟩ := txt_of x.path
      obtain ⟨XD, hXD, _⟩ := txt_of x.data
      rw [hXP] at c0
      rw [hXD] at c2
      have HV : Hid (getG ts p = .returned (.tuple #[.agg #[.string XP, .int .i64 x.kind, .string XD, .int .i64 x.mode], .bool true])) := Lib.hid (by
        unfold getG getL
        rw [if_pos HT.out, place_yes (CF.out HT.out) hx hxp, ← hXP, ← hXD]
        rfl)
      clear hb hpl hx hxp hc hkl r1 hXP hXD
      repeat (first | go_skip | go_guarded | go_step | go_upon)
      refine bodyPost_ret (v := .tuple #[.agg #[.string XP, .int .i64 x.kind, .string XD, .int .i64 x.mode], .bool true]) ?_ rfl ⟨HV.out.symm, below4g HB2.out _ _ _ _⟩
      rw [results_cell_tmp rfl]
      go_simp
    · have HV : Hid (getG ts p = .returned (.tuple #[ndVal zeroG, .bool false])) := Lib.hid (by
        unfold getG getL
        rw [if_pos HT.out, place_no (CF.out HT.out) hpl hno])
      clear hb hpl hno r1
      repeat (first | go_skip | go_guarded | go_step | go_upon)
      refine bodyPost_ret (v := .tuple #[.agg #[.string ⟨#[]⟩, .int .i64 0, .string ⟨#[]⟩, .int .i64 0], .bool false]) ?_ rfl ⟨HV.out.symm, below4g HB2.out _ _ _ _⟩
      rw [results_cell_tmp rfl]
      go_simp
  · have hEb : ((E : Int) != 0) = true := by simp; omega
    have HV : Hid (getG ts p = .returned (.tuple #[ndVal zeroG, .bool false])) := Lib.hid (by
      unfold getG getL
      rw [if_neg (fun e => hE1 (HE.out.2 e))])
    clear hE1
    go_enter Tryd.func22, Tryd.ntmps22
    repeat (first | (go_at_call 18; refine CC.out.mono ?_; rintro r w1 ⟨rfl, hb⟩; simp only []; have HB1 := Lib.hid (Below.trans HW0.out (hb.mono HW0.out.size)); obtain ⟨t0, t1, t2, t3, tf⟩ := row4 ((hb.block w.heap.size (by simp)).trans (heap_alloc_new w _)); clear hb) | go_skip | go_guarded | go_step | go_upon)
    refine bodyPost_ret (v := .tuple #[.agg #[.string ⟨#[]⟩, .int .i64 0, .string ⟨#[]⟩, .int .i64 0], .bool false]) ?_ rfl ⟨HV.out.symm, below4g HB1.out _ _ _ _⟩
    rw [results_cell_tmp rfl]
    go_simp
end TG
end Go.Proofs.YtlofdhnghidcnaaDoor
