/- Layer 6: the contracts of the document's Right, Get. -/
import Derived.Test.YtfbhbadcgecgmaaGreatDoorTreeRef4
namespace Go.Proofs.YtfbhbadcgecgmaaGreatDoor
open Go.RowKit Go.Lib Go.BigFrame
namespace TR
open OM TP TM

/-- A list without its first node. -/
theorem sl_tail (g o n cap : Nat) (W : World) (h1 : 1 ≤ n) (hc : cap ≠ 1) : (Instr.slice 22 (.slice (some ⟨g, o, none⟩) n cap) (some (.int .i64 1)) none none).run Tryz.prog W = .ok (.slice (some ⟨g, o + 4, none⟩) (n - 1) (cap - 1)) W := by
  rw [run_slice_l W 22 (some ⟨g, o, none⟩) n cap (show Tryz.prog.underlying 22 = some (.slice (Tryz.prog.elem 22)) by kernel_rfl) .i64 1 (by omega) (by omega)]
  have hs : (sizeOf (Tryz.prog.elem 22)).run Tryz.prog W = .ok 4 W := by
    rw [show Tryz.prog.elem 22 = 45 by kernel_rfl]
    simp [go_sem]
  rw [hs]
  simp only [Result.andThen, sliced]
  have e : (1 : Int).toNat = 1 := rfl
  rw [e, if_neg hc]
  simp [Addr.add]
theorem LayN.tail {W : World} {g o : Nat} {x : Nd} {r : List Nd} (h : LayN W (some ⟨g, o, none⟩) (x :: r)) : LayN W (some ⟨g, o + 4, none⟩) r := fun _ => by
  obtain ⟨g', o', e, hg, hc⟩ := h (by simp)
  cases e
  refine ⟨g, o + 4, rfl, hg, fun k n hk => ?_⟩
  have := hc (k + 1) n (by rw [List.getElem?_cons_succ]; exact hk)
  rw [show o + 4 + k * 4 = o + (k + 1) * 4 by omega]
  exact this
theorem lay_head {W : World} {g o : Nat} {x : Nd} {r : List Nd} (h : LayN W (some ⟨g, o, none⟩) (x :: r)) : NodeAt W g o x := by
  obtain ⟨g', o', e, hg, hc⟩ := h (by simp)
  cases e
  have := hc 0 x rfl
  rw [Nat.zero_mul, Nat.add_zero] at this
  exact this
set_option maxRecDepth 100000 in
set_option maxHeartbeats 3200000 in
theorem rrightv_any (ao : Option Addr) (cap : Nat) (v : List Nd) (w : World) (h : LayN w ao v) (hs : Small v) (hl : v.length ≤ maxLen) (hcap : v.length ≤ cap) :
    Calls Tryz.prog 176 #[.slice ao v.length cap] w fun r w' => r = .returned (.bool (rightV v)) ∧ Below w.heap.size w w' := by
  cases v with
  | nil =>
    go_enter Tryz.func176, Tryz.ntmps176
    repeat (first | go_skip | go_guarded | go_step | go_upon)
    go_ret
    exact ⟨rfl, Below.refl _ _⟩
  | cons x r =>
    obtain ⟨g, o, rfl, hg, _⟩ := h (by simp)
    have HL := Lib.hid h
    obtain ⟨n, hn⟩ : ∃ n, (x :: r).length = n := ⟨_, rfl⟩
    have hrl : r.length + 1 = n := by rw [← hn]; rfl
    rw [hn] at hl hcap ⊢
    unfold maxLen at hl
    have hnz : (n : Int) ≤ 9223372036854775807 := by omega
    have hn0 : ((n : Int) == 0) = false := by simp; omega
    have hnp : (0 : Int) < n := by omega
    have hNd : ∀ W, Below w.heap.size w W → NodeAt W g o x := fun W hW => lay_head (HL.out.below hW)
    obtain ⟨hs1, hs2⟩ := hs x (List.mem_cons_self ..)
    obtain ⟨X, hX⟩ : ∃ X : ByteArray, ⟨x.path.toArray⟩ = X := ⟨_, rfl⟩
    have hXd : X.data.toList = x.path := by rw [← hX]
    obtain ⟨D, hD⟩ : ∃ D : ByteArray, ⟨x.data.toArray⟩ = D := ⟨_, rfl⟩
    obtain ⟨kx, hkx⟩ : ∃ kx, x.kind = kx := ⟨_, rfl⟩
    obtain ⟨mx, hmx⟩ : ∃ mx, x.mode = mx := ⟨_, rfl⟩
    have CL : Hid (∀ W, Below w.heap.size w W → W.cell? ⟨g, o, none⟩ = some (.string X) ∧ W.cell? ⟨g, o + 1, none⟩ = some (.int .i64 kx) ∧ W.cell? ⟨g, o + 2, none⟩ = some (.string D) ∧ W.cell? ⟨g, o + 3, none⟩ = some (.int .i64 mx)) := Lib.hid (fun W hW => by
      obtain ⟨p, k, d, m⟩ := hNd W hW
      unfold txt at p d
      rw [hX] at p
      rw [hD] at d
      exact ⟨p, by rw [← hkx]; exact k, d, by rw [← hmx]; exact m⟩)
    obtain ⟨e0, e1, e2, e3⟩ := CL.out w (Below.refl _ _)
    obtain ⟨b2, hb2⟩ : ∃ b, rightB x = b := ⟨_, rfl⟩
    have C2 : Hid (∀ W, Calls Tryz.prog 71 #[.agg #[.string X, .int .i64 kx, .string D, .int .i64 mx]] W fun r w' => r = .returned (.bool b2) ∧ Below W.heap.size W w') := Lib.hid (fun W => by
      have := rright_any x W (by unfold maxLen; omega)
      unfold ndVal txt at this
      rw [hX, hD, hkx, hmx, hb2] at this
      exact this)
    have HR : Hid (rightV (x :: r) = (decide (x.path = []) && b2 && decide (n ≤ 1000) && (decide (r = []) || (decide (kx = 2) && treeB r)))) := Lib.hid (by unfold rightV; simp only; rw [hb2, hrl, hkx])
    by_cases hp : x.path = []
    · have hXe : X.toList.isEmpty = true := by rw [Lib.toList_data, hXd, hp]; rfl
      cases b2 with
      | false =>
        have HF : Hid (rightV (x :: r) = false) := Lib.hid (by rw [HR.out]; simp)
        clear hX hXd hD hkx hmx hb2 hs1 hs2 hNd hn hrl hl hcap hs h hp
        go_enter Tryz.func176, Tryz.ntmps176
        repeat (first | (go_at_call 71; refine (C2.out _).mono ?_; rintro r w2 ⟨rfl, hb⟩; simp only []; have W2 := Lib.hid hb; clear hb) | go_skip | go_guarded | go_step | go_upon)
        go_ret
        exact ⟨by rw [HF.out]; rfl, W2.out⟩
      | true =>
        by_cases hm : n ≤ 1000
        · have hmz : ¬ (1000 : Int) < n := by omega
          by_cases h1 : n = 1
          · have h1b : ((n : Int) == 1) = true := by simp; omega
            have HF : Hid (rightV (x :: r) = true) := Lib.hid (by
              have hr : r = [] := List.eq_nil_of_length_eq_zero (by omega)
              rw [HR.out, decide_eq_true hp, decide_eq_true hm, decide_eq_true hr]; rfl)
            clear hX hXd hD hkx hmx hb2 hs1 hs2 hNd hn hrl hl hcap hs h hp hm h1
            go_enter Tryz.func176, Tryz.ntmps176
            repeat (first | (go_at_call 71; refine (C2.out _).mono ?_; rintro r w2 ⟨rfl, hb⟩; simp only []; obtain ⟨e4, e5, e6, e7⟩ := CL.out w2 hb; have W2 := Lib.hid hb; clear hb) | go_skip | go_guarded | go_step | go_upon)
            go_ret
            exact ⟨by rw [HF.out]; rfl, W2.out⟩
          · have h1b : ((n : Int) == 1) = false := by simp; omega
            have hrne : r ≠ [] := fun e => by rw [e] at hrl; simp at hrl; omega
            by_cases hk : kx = 2
            · have hkb : (kx == 2) = true := by simp [hk]
              have hsl := fun W => sl_tail g o n cap W (by omega) (by omega)
              obtain ⟨q, hq⟩ : ∃ q, n - 1 = q := ⟨_, rfl⟩
              have hrq : r.length = q := by omega
              obtain ⟨E, hE⟩ : ∃ E : Nat, checkE r = E := ⟨_, rfl⟩
              have C3 : Hid (∀ W, Below w.heap.size w W → Calls Tryz.prog 23 #[.slice (some ⟨g, o + 4, none⟩) q (cap - 1)] W fun r w' => r = .returned (.int .i64 (E : Nat)) ∧ Below W.heap.size W w') := Lib.hid (fun W hW => by
                have := rcheck_any (some ⟨g, o + 4, none⟩) (cap - 1) r W (LayN.tail (HL.out.below hW)) (fun m hm => hs m (List.mem_cons_of_mem _ hm)) (by unfold maxLen; omega)
                rw [hrq, hE] at this
                exact this)
              rw [hq] at hsl
              obtain ⟨b, hb⟩ : ∃ b, ((E : Int) == 0) = b := ⟨_, rfl⟩
              have HF : Hid (rightV (x :: r) = b) := Lib.hid (by
                rw [HR.out, decide_eq_true hp, decide_eq_true hm, decide_eq_false hrne, decide_eq_true hk, ← hb, ← hE]
                unfold checkE
                cases treeB r <;> simp)
              clear hX hXd hD hkx hmx hb2 hs1 hs2 hNd hn hrl hl hcap hs h hp hm h1 hk hE hq hrq hrne
              go_enter Tryz.func176, Tryz.ntmps176
              repeat (first | (go_at_call 71; refine (C2.out _).mono ?_; rintro r w2 ⟨rfl, hb'⟩; simp only []; obtain ⟨e4, e5, e6, e7⟩ := CL.out w2 hb'; have W2 := Lib.hid hb'; clear hb') | (go_at_call 23; refine (C3.out _ W2.out).mono ?_; rintro r w3 ⟨rfl, hb'⟩; simp only []; have W3 := Lib.hid (Below.trans W2.out (hb'.mono W2.out.size)); clear hb') | go_skip | go_guarded | go_step | go_upon)
              go_ret
              exact ⟨by rw [HF.out]; rfl, W3.out⟩
            · have hkb : (kx == 2) = false := by simp [hk]
              have HF : Hid (rightV (x :: r) = false) := Lib.hid (by rw [HR.out, decide_eq_false hrne, decide_eq_false hk]; simp)
              clear hX hXd hD hkx hmx hb2 hs1 hs2 hNd hn hrl hl hcap hs h hp hm h1 hk hrne
              go_enter Tryz.func176, Tryz.ntmps176
              repeat (first | (go_at_call 71; refine (C2.out _).mono ?_; rintro r w2 ⟨rfl, hb⟩; simp only []; obtain ⟨e4, e5, e6, e7⟩ := CL.out w2 hb; have W2 := Lib.hid hb; clear hb) | go_skip | go_guarded | go_step | go_upon)
              go_ret
              exact ⟨by rw [HF.out]; rfl, W2.out⟩
        · have hmz : (1000 : Int) < n := by omega
          have HF : Hid (rightV (x :: r) = false) := Lib.hid (by rw [HR.out, decide_eq_false hm]; simp)
          clear hX hXd hD hkx hmx hb2 hs1 hs2 hNd hn hrl hl hcap hs h hp hm
          go_enter Tryz.func176, Tryz.ntmps176
          repeat (first | (go_at_call 71; refine (C2.out _).mono ?_; rintro r w2 ⟨rfl, hb⟩; simp only []; obtain ⟨e4, e5, e6, e7⟩ := CL.out w2 hb; have W2 := Lib.hid hb; clear hb) | go_skip | go_guarded | go_step | go_upon)
          go_ret
          exact ⟨by rw [HF.out]; rfl, W2.out⟩
    · have hXe : X.toList.isEmpty = false := by rw [Lib.toList_data, hXd]; simpa using hp
      have HF : Hid (rightV (x :: r) = false) := Lib.hid (by rw [HR.out, decide_eq_false hp]; simp)
      clear hX hXd hD hkx hmx hb2 hs1 hs2 hNd hn hrl hl hcap hs h hp
      go_enter Tryz.func176, Tryz.ntmps176
      repeat (first | go_skip | go_guarded | go_step | go_upon)
      go_ret
      exact ⟨by rw [HF.out]; rfl, Below.refl _ _⟩
end TR
end Go.Proofs.YtfbhbadcgecgmaaGreatDoor
