/- Layer 6: the contracts of the program's Right, Get. -/
import Derived.Test.YtfbhbadcgecgmaaGreatDoorTreeGo5
namespace Go.Proofs.YtfbhbadcgecgmaaGreatDoor
open Go.RowKit Go.Lib Go.BigFrame
namespace TG
open OM TP TM

theorem lay_first {W : World} {ao : Option Addr} {x : Nd} {r : List Nd} (h : LayN W ao (x :: r)) : ∃ g o, ao = some ⟨g, o, none⟩ ∧ g < W.heap.size ∧ NodeAt W g o x := by
  obtain ⟨g, o, e, hg, hc⟩ := h (by simp)
  have := hc 0 x rfl
  rw [Nat.zero_mul, Nat.add_zero] at this
  exact ⟨g, o, e, hg, this⟩
set_option maxRecDepth 100000 in
set_option maxHeartbeats 3200000 in
theorem rightV_any (ao : Option Addr) (cap : Nat) (v : List Nd) (w : World) (he : NF.Env w) (h : LayN w ao v) (hs : SmallG v) (hl : v.length ≤ maxLen) (hcap : v.length ≤ cap) :
    Calls Tryz.prog 93 #[.slice ao v.length cap] w fun r w' => r = .returned (.bool (rightV v)) ∧ Below w.heap.size w w' := by
  cases v with
  | nil =>
    go_enter Tryz.func93, Tryz.ntmps93
    repeat (first | go_skip | go_guarded | go_step | go_upon)
    go_ret
    exact ⟨rfl, Below.refl _ _⟩
  | cons x r =>
    have HL := Lib.hid h
    have HE := Lib.hid he
    have hsl := sl_from ndsl_node ao (x :: r) 1 cap (by simp) hcap
    obtain ⟨ao', c', hsl, hlay, hc', _⟩ := hsl
    have HLt : Hid (∀ W, Below w.heap.size w W → LayN W ao' r) := Lib.hid (fun W hW => hlay W (HL.out.below hW))
    obtain ⟨g, o, rfl, hg, hnd⟩ := lay_first h
    obtain ⟨n, hn⟩ : ∃ n, (x :: r).length = n := ⟨_, rfl⟩
    have hrl : r.length + 1 = n := by rw [← hn]; rfl
    obtain ⟨q, hq⟩ : ∃ q, n - 1 = q := ⟨_, rfl⟩
    have hrq : r.length = q := by omega
    rw [hn] at hl hcap hsl hc' ⊢
    rw [hq] at hsl hc'
    have hsl1 : ∀ W, (Instr.slice 22 (.slice (some ⟨g, o, none⟩) n cap) (some (.int .i64 1)) none none).run Tryz.prog W = .ok (.slice ao' q c') W := hsl
    clear hsl
    unfold maxLen at hl
    have hnz : (n : Int) ≤ 9223372036854775807 := by omega
    have hn0 : ((n : Int) == 0) = false := by simp; omega
    have hnp : (0 : Int) < n := by omega
    obtain ⟨hs1, hs2⟩ := hs x (List.mem_cons_self ..)
    obtain ⟨X, hX, hXd⟩ := txt_of x.path
    obtain ⟨D, hD, _⟩ := txt_of x.data
    obtain ⟨kx, hkx⟩ : ∃ kx, x.kind = kx := ⟨_, rfl⟩
    obtain ⟨mx, hmx⟩ : ∃ mx, x.mode = mx := ⟨_, rfl⟩
    have CL : Hid (∀ W, Below w.heap.size w W → W.cell? ⟨g, o, none⟩ = some (.string X) ∧ W.cell? ⟨g, o + 1, none⟩ = some (.int .i64 kx) ∧ W.cell? ⟨g, o + 2, none⟩ = some (.string D) ∧ W.cell? ⟨g, o + 3, none⟩ = some (.int .i64 mx)) := Lib.hid (fun W hW => by
      obtain ⟨p, k, d, m⟩ := hnd.below hg hW
      rw [hX] at p
      rw [hD] at d
      exact ⟨p, by rw [← hkx]; exact k, d, by rw [← hmx]; exact m⟩)
    obtain ⟨e0, e1, e2, e3⟩ := CL.out w (Below.refl _ _)
    obtain ⟨b2, hb2⟩ : ∃ b, rightB x = b := ⟨_, rfl⟩
    have C2 : Hid (∀ W, Calls Tryz.prog 84 #[.agg #[.string X, .int .i64 kx, .string D, .int .i64 mx]] W fun r w' => r = .returned (.bool b2) ∧ Below W.heap.size W w') := Lib.hid (fun W => by
      have := right_any x W hs2
      unfold ndVal at this
      rw [hX, hD, hkx, hmx, hb2] at this
      exact this)
    obtain ⟨E, hE⟩ : ∃ E : Nat, checkG r = E := ⟨_, rfl⟩
    have C3 : Hid (∀ W, Below w.heap.size w W → Calls Tryz.prog 35 #[.slice ao' q c'] W fun r w' => r = .returned (.int .i64 (E : Nat)) ∧ Below W.heap.size W w') := Lib.hid (fun W hW => by
      have := check_any ao' c' r W (HE.out.below hW) (HLt.out W hW) (fun m hm => hs m (List.mem_cons_of_mem _ hm)) (by unfold maxLen; omega) (by omega)
      rw [hrq, hE] at this
      exact this)
    have HR : Hid (rightV (x :: r) = (decide (x.path = []) && b2 && decide (n ≤ 1000) && (decide (r = []) || (decide (kx = 2) && treeB r)))) := Lib.hid (by unfold rightV; simp only; rw [hb2, hrl, hkx])
    by_cases hm : n ≤ 1000
    · have hmz : ¬ (1000 : Int) < n := by omega
      have hmd : decide ((1000 : Int) < n) = false := decide_eq_false hmz
      by_cases hp : x.path = []
      · have hXe : X.toList.isEmpty = true := by rw [Lib.toList_data, hXd, hp]; rfl
        cases b2 with
        | false =>
          have HF : Hid (rightV (x :: r) = false) := Lib.hid (by rw [HR.out]; simp)
          clear hX hXd hD hkx hmx hb2 hs1 hs2 hnd hn hrl hl hcap hs h hp he hE hq hrq hlay hm
          go_enter Tryz.func93, Tryz.ntmps93
          repeat (first | (go_at_call 84; refine (C2.out _).mono ?_; rintro r w2 ⟨rfl, hb⟩; simp only []; have W2 := Lib.hid hb; clear hb) | go_skip | go_guarded | go_step | go_upon)
          go_ret
          exact ⟨by rw [HF.out]; rfl, W2.out⟩
        | true =>
          by_cases hk : kx = 2
          · have hkb : (kx == 2) = true := by simp [hk]
            obtain ⟨b, hb⟩ : ∃ b, ((E : Int) == 0) = b := ⟨_, rfl⟩
            have HF : Hid (rightV (x :: r) = b) := Lib.hid (by
              rw [HR.out, decide_eq_true hp, decide_eq_true hm, decide_eq_true hk, ← hb, ← hE]
              unfold checkG
              by_cases hr : r = []
              · rw [hr]; rfl
              · rw [decide_eq_false hr]; cases treeB r <;> simp)
            clear hX hXd hD hkx hmx hb2 hs1 hs2 hnd hn hrl hl hcap hs h hp he hE hq hrq hlay hm hk
            go_enter Tryz.func93, Tryz.ntmps93
            repeat (first | (go_at_call 84; refine (C2.out _).mono ?_; rintro r w2 ⟨rfl, hb'⟩; simp only []; obtain ⟨e4, e5, e6, e7⟩ := CL.out w2 hb'; have W2 := Lib.hid hb'; clear hb') | (go_at_call 35; refine (C3.out _ W2.out).mono ?_; rintro r w3 ⟨rfl, hb'⟩; simp only []; have W3 := Lib.hid (Below.trans W2.out (hb'.mono W2.out.size)); clear hb') | go_skip | go_guarded | go_step | go_upon)
            go_ret
            exact ⟨by rw [HF.out]; rfl, W3.out⟩
          · have hkb : (kx == 2) = false := by simp [hk]
            obtain ⟨b, hb⟩ : ∃ b, ((n : Int) == 1) = b := ⟨_, rfl⟩
            have HF : Hid (rightV (x :: r) = b) := Lib.hid (by
              rw [HR.out, decide_eq_true hp, decide_eq_true hm, decide_eq_false hk, ← hb]
              by_cases hr : r = []
              · rw [decide_eq_true hr]
                have : n = 1 := by rw [← hrl, hr]; rfl
                rw [this]; rfl
              · rw [decide_eq_false hr]
                have : 0 < r.length := List.length_pos_iff.2 hr
                have h2 : ((n : Int) == 1) = false := by simp; omega
                rw [h2]; rfl)
            clear hX hXd hD hkx hmx hb2 hs1 hs2 hnd hn hrl hl hcap hs h hp he hE hq hrq hlay hm hk
            go_enter Tryz.func93, Tryz.ntmps93
            repeat (first | (go_at_call 84; refine (C2.out _).mono ?_; rintro r w2 ⟨rfl, hb'⟩; simp only []; obtain ⟨e4, e5, e6, e7⟩ := CL.out w2 hb'; have W2 := Lib.hid hb'; clear hb') | go_skip | go_guarded | go_step | go_upon)
            go_ret
            exact ⟨by rw [HF.out]; rfl, W2.out⟩
      · have hXe : X.toList.isEmpty = false := by rw [Lib.toList_data, hXd]; simpa using hp
        have HF : Hid (rightV (x :: r) = false) := Lib.hid (by rw [HR.out, decide_eq_false hp]; simp)
        clear hX hXd hD hkx hmx hb2 hs1 hs2 hnd hn hrl hl hcap hs h hp he hE hq hrq hlay hm
        go_enter Tryz.func93, Tryz.ntmps93
        repeat (first | go_skip | go_guarded | go_step | go_upon)
        go_ret
        exact ⟨by rw [HF.out]; rfl, Below.refl _ _⟩
    · have hmz : (1000 : Int) < n := by omega
      have hmd : decide ((1000 : Int) < n) = true := decide_eq_true hmz
      have HF : Hid (rightV (x :: r) = false) := Lib.hid (by rw [HR.out, decide_eq_false hm]; simp)
      clear hX hXd hD hkx hmx hb2 hs1 hs2 hnd hn hrl hl hcap hs h he hE hq hrq hlay hm
      go_enter Tryz.func93, Tryz.ntmps93
      repeat (first | go_skip | go_guarded | go_step | go_upon)
      go_ret
      exact ⟨by rw [HF.out]; rfl, Below.refl _ _⟩
def zeroG : Nd := ⟨[], 0, [], 0⟩
def getG (ts : List Nd) (p : List UInt8) : Ending := match getL ts p with
  | some n => .returned (.tuple #[ndVal n, .bool true])
  | none => .returned (.tuple #[ndVal zeroG, .bool false])
theorem row4 {W : World} {b : Nat} {a0 a1 a2 a3 : Value} {t : TypeId} (h : W.heap[b]? = some (.cells #[a0, a1, a2, a3] t (0, 0))) :
    W.cell? ⟨b, 0, none⟩ = some a0 ∧ W.cell? ⟨b, 1, none⟩ = some a1 ∧ W.cell? ⟨b, 2, none⟩ = some a2 ∧ W.cell? ⟨b, 3, none⟩ = some a3 ∧ ∀ j, W.frozen? ⟨b, j, none⟩ = false :=
  ⟨by rw [cell_of_row W b 0 _ _ _ h]; rfl, by rw [cell_of_row W b 1 _ _ _ h]; rfl, by rw [cell_of_row W b 2 _ _ _ h]; rfl, by rw [cell_of_row W b 3 _ _ _ h]; rfl, fun j => frozen_of_row W b j _ _ h⟩
theorem below4g {w W : World} (h : Below w.heap.size w W) (a b c d : Value) : Below w.heap.size w ((((W.setCell ⟨w.heap.size, 0, none⟩ a).setCell ⟨w.heap.size, 1, none⟩ b).setCell ⟨w.heap.size, 2, none⟩ c).setCell ⟨w.heap.size, 3, none⟩ d) :=
  (((h.setCell (p := ⟨w.heap.size, 0, none⟩) (Nat.le_refl _) _).setCell (p := ⟨w.heap.size, 1, none⟩) (Nat.le_refl _) _).setCell (p := ⟨w.heap.size, 2, none⟩) (Nat.le_refl _) _).setCell (p := ⟨w.heap.size, 3, none⟩) (Nat.le_refl _) _
theorem checkG_zero (ts : List Nd) : ((checkG ts : Nat) : Int) = 0 ↔ treeB ts = true := by
  unfold checkG
  cases treeB ts <;> simp
end TG
end Go.Proofs.YtfbhbadcgecgmaaGreatDoor
