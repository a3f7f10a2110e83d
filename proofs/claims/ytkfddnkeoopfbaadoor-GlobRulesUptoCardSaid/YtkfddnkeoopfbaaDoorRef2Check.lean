/- The document's answer: Check. -/
import Derived.Test.YtkfddnkeoopfbaaDoorRef2Bad
import Derived.Test.YtkfddnkeoopfbaaDoorRef2Cls
namespace Go.Proofs.YtkfddnkeoopfbaaDoor
open Go.RowKit Go.Lib
namespace RG
open GP LitN RN
theorem clR_some : ∀ (n : Nat) (r : List UInt8) (i fr e : Nat), r.length ≤ n → clR r i fr = some e → i ≤ e ∧ e < i + r.length
  | 0, r, i, fr, e, h, he => by
    have : r = [] := List.eq_nil_of_length_eq_zero (by omega)
    subst this
    rw [clR_nil] at he
    cases he
  | n + 1, r, i, fr, e, h, he => by
    cases r with
    | nil => rw [clR_nil] at he; cases he
    | cons x r =>
      rw [List.length_cons] at h ⊢
      rw [clR_cons] at he
      split at he
      · cases he
      · split at he
        · cases r with
          | nil => simp at he
          | cons y r2 =>
            simp only [] at he
            rw [List.length_cons] at h ⊢
            split at he
            · cases he
            · have := clR_some n r2 (i + 2) fr e (by omega) he
              omega
        · split at he
          · split at he
            · cases he
            · simp only [Option.some.injEq] at he
              omega
          · have := clR_some n r (i + 1) fr e (by omega) he
            omega
theorem clL_some {l : List UInt8} {a e : Nat} (h : clL l a = some e) : a + 1 ≤ e ∧ e < l.length := by
  unfold clL at h
  have h1 := clR_some _ _ _ _ _ (Nat.le_refl _) h
  have h2 : a + 1 ≤ clF l a := by unfold clF; split <;> omega
  rw [List.length_drop] at h1
  omega
def ckG : Nat → List UInt8 → Nat → Bool → Option Nat
  | 0, _, _, _ => none
  | n + 1, l, i, b => match l.drop i with
    | [] => none
    | x :: r =>
      if x = 47 then (if b = false ∨ r = [] then some i else ckG n l (i + 1) false)
      else if x = 92 then (if r = [] ∨ r.head? = some 47 then some i else ckG n l (i + 2) true)
      else if x = 91 then (match clL l i with
        | none => some i
        | some e => ckG n l (e + 1) true)
      else ckG n l (i + 1) true
def ckO : Option Nat → Nat × Nat
  | some k => (k, 20)
  | none => (0, 0)
def rchkL (l : List UInt8) : Nat × Nat :=
  if l = [] ∨ 400 < l.length then (l.length, 20)
  else match spR l 0 with
    | some k => (k, 20)
    | none => ckO (ckG (l.length + 1) l 0 false)
def PairPost (a : Nat × Nat) (w : World) (e : Ending) (w' : World) : Prop := e = .returned (.tuple #[.int .i64 (a.1 : Nat), .int .i64 (a.2 : Nat)]) ∧ w = w'
set_option maxRecDepth 100000 in
set_option maxHeartbeats 3200000 in
theorem rcheck_any (s : ByteArray) (w : World) (hs : s.size ≤ 9223372036854775807) :
    Calls Tryd.prog 15 #[.string s] w (PairPost (rchkL s.data.toList) w) := by
  by_cases h0 : s.data.toList = []
  · have hte := GR.empty_of h0
    have hsz := hte.2
    have hti := hte.1
    have HX : Hid (rchkL s.data.toList = (0, 20)) := Lib.hid (by unfold rchkL; rw [if_pos (.inl h0), h0]; rfl)
    clear hte h0
    go_enter Tryd.func15, Tryd.ntmps15
    go_wp2_with fail
    go_ret2
    exact ⟨by rw [HX.out]; rfl, rfl⟩
  · have hti : s.toList.isEmpty = false := by rw [Lib.toList_data]; simpa using h0
    by_cases h4 : 400 < s.size
    · have h4z : (400 : Int) < s.size := by omega
      have HX : Hid (rchkL s.data.toList = (s.size, 20)) := Lib.hid (by unfold rchkL; rw [if_pos (.inr (by rw [← Lib.size_eq]; exact h4)), ← Lib.size_eq])
      clear h0
      go_enter Tryd.func15, Tryd.ntmps15
      go_wp2_with fail
      go_ret2
      exact ⟨by rw [HX.out]; rfl, rfl⟩
    · have h4z : ¬ (400 : Int) < s.size := by omega
      have cB := bad_any s w (by omega)
      have hx : rchkL s.data.toList = match spR s.data.toList 0 with
        | some k => (k, 20)
        | none => ckO (ckG (s.data.toList.length + 1) s.data.toList 0 false) := by
        unfold rchkL
        rw [if_neg (by rw [← Lib.size_eq]; rintro (h | h); exact h0 h; omega)]
      unfold badI at cB
      clear h0
      cases hsp : spR s.data.toList 0 with
      | some k =>
        rw [hsp] at cB hx
        have HX := Lib.hid hx
        have hkz : (0 : Int) ≤ k := by omega
        clear hsp hx
        go_enter Tryd.func15, Tryd.ntmps15
        go_wp2_with fail
        refine cB.mono ?_
        rintro e w' ⟨rfl, rfl⟩
        clear cB
        go_wp2_with fail
        go_ret2
        exact ⟨by rw [HX.out]; rfl, rfl⟩
      | none =>
        rw [hsp] at cB hx
        simp only [] at cB hx
        have HX := Lib.hid hx
        clear hsp hx
        generalize hR : ckG (s.data.toList.length + 1) s.data.toList 0 false = R at HX
        have HR := Lib.hid hR
        clear hR
        go_enter Tryd.func15, Tryd.ntmps15
        go_wp2_with fail
        refine cB.mono ?_
        rintro e w' ⟨rfl, rfl⟩
        clear cB
        go_wp2_with fail
        go_loop [5, 6] (fun s5 s6 => ∃ (k n : Nat) (b : Bool), k ≤ s.size ∧ s.size < k + n ∧ s5 = .bool b ∧ s6 = .int .i64 k ∧ ckG n s.data.toList k b = R) (fun _ s6 => s.size - (Go.RowKit.intOf s6).toNat)
        case atStart => exact ⟨0, s.data.toList.length + 1, false, Nat.zero_le _, by rw [← Lib.size_eq]; omega, rfl, rfl, HR.out⟩
        case round =>
          obtain ⟨k, n, b, hk, hkn, rfl, rfl, hR⟩ := hrel
          obtain ⟨m, rfl⟩ : ∃ m, n = m + 1 := ⟨n - 1, by omega⟩
          rw [ckG] at hR
          by_cases hlt : k < s.size
          · have hz : (k : Int) < s.size := by omega
            rw [drop_at s k hlt] at hR
            simp only [] at hR
            by_cases h47 : s[k] = 47
            · have e47 : ((((s[k]).toNat : Nat) : Int) == 47) = true := by rw [h47]; rfl
              rw [if_pos h47] at hR
              clear h47
              cases b
              · rw [if_pos (.inl rfl)] at hR
                subst hR
                go_wp2_with fail
                go_ret2
                exact ⟨by rw [HX.out]; rfl, rfl⟩
              · by_cases hl : k + 1 = s.size
                · have hkl : ((k : Int) == (s.size : Int) - 1) = true := beq_iff_eq.2 (by omega)
                  rw [if_pos (.inr (drop_end s (k + 1) (by omega)))] at hR
                  subst hR
                  go_wp2_with fail
                  go_ret2
                  exact ⟨by rw [HX.out]; rfl, rfl⟩
                · have hkl : ((k : Int) == (s.size : Int) - 1) = false := beq_eq_false_iff_ne.2 (by omega)
                  rw [if_neg (by rintro (h | h); cases h; exact drop_ne s (k + 1) (by omega) h)] at hR
                  have hR2 := Lib.hid hR
                  clear hR
                  go_wp2_with fail
                  go_round
                  case rel => exact ⟨k + 1, m, false, by omega, by omega, rfl, by go_num, hR2.out⟩
                  case measure => simp [Go.RowKit.intOf]; omega
            · have e47 : ((((s[k]).toNat : Nat) : Int) == 47) = false := GR.byte_no h47
              rw [if_neg h47] at hR
              clear h47
              by_cases h92 : s[k] = 92
              · have e92 : ((((s[k]).toNat : Nat) : Int) == 92) = true := by rw [h92]; rfl
                rw [if_pos h92] at hR
                clear h92
                by_cases hl : k + 1 = s.size
                · have hkl : ((k : Int) == (s.size : Int) - 1) = true := beq_iff_eq.2 (by omega)
                  rw [if_pos (.inl (drop_end s (k + 1) (by omega)))] at hR
                  subst hR
                  go_wp2_with fail
                  go_ret2
                  exact ⟨by rw [HX.out]; rfl, rfl⟩
                · have hkl : ((k : Int) == (s.size : Int) - 1) = false := beq_eq_false_iff_ne.2 (by omega)
                  have hlt2 : k + 1 < s.size := by omega
                  have hz2 : ((k : Int) + 1) < s.size := by omega
                  rw [drop_at s (k + 1) hlt2] at hR
                  by_cases f : s[k + 1] = 47
                  · have f47 : ((((s[k + 1]).toNat : Nat) : Int) == 47) = true := by rw [f]; rfl
                    rw [if_pos (.inr (by rw [f]; rfl))] at hR
                    clear f
                    subst hR
                    go_wp2_with fail
                    go_ret2
                    exact ⟨by rw [HX.out]; rfl, rfl⟩
                  · have f47 : ((((s[k + 1]).toNat : Nat) : Int) == 47) = false := GR.byte_no f
                    rw [if_neg (by rintro (h | h); cases h; exact f (by simpa using h))] at hR
                    clear f
                    have hR2 := Lib.hid hR
                    clear hR
                    go_wp2_with fail
                    go_round
                    case rel => exact ⟨k + 2, m, true, by omega, by omega, rfl, by go_num, hR2.out⟩
                    case measure => simp [Go.RowKit.intOf]; omega
              · have e92 : ((((s[k]).toNat : Nat) : Int) == 92) = false := GR.byte_no h92
                rw [if_neg h92] at hR
                clear h92
                by_cases h91 : s[k] = 91
                · have e91 : ((((s[k]).toNat : Nat) : Int) == 91) = true := by rw [h91]; rfl
                  rw [if_pos h91] at hR
                  clear h91
                  have cC := closing_any s k w hlt (by omega)
                  cases hcl : clL s.data.toList k with
                  | none =>
                    rw [hcl] at hR cC
                    simp only [] at hR
                    clear hcl
                    subst hR
                    go_wp2_with fail
                    refine cC.mono ?_
                    rintro e w' ⟨rfl, rfl⟩
                    clear cC
                    go_wp2_with fail
                    go_ret2
                    exact ⟨by rw [HX.out]; rfl, rfl⟩
                  | some j =>
                    have hj := clL_some hcl
                    rw [← Lib.size_eq] at hj
                    rw [hcl] at hR cC
                    simp only [] at hR
                    have hjz : ¬ (j : Int) < 0 := by omega
                    have hR2 := Lib.hid hR
                    clear hcl hR
                    go_wp2_with fail
                    refine cC.mono ?_
                    rintro e w' ⟨rfl, rfl⟩
                    clear cC
                    have hci : clI (some j) = (j : Int) := rfl
                    rw [hci]
                    go_wp2_with fail
                    go_round
                    case rel => exact ⟨j + 1, m, true, by omega, by omega, rfl, by go_num, hR2.out⟩
                    case measure => simp [Go.RowKit.intOf]; omega
                · have e91 : ((((s[k]).toNat : Nat) : Int) == 91) = false := GR.byte_no h91
                  rw [if_neg h91] at hR
                  clear h91
                  have hR2 := Lib.hid hR
                  clear hR
                  go_wp2_with fail
                  go_round
                  case rel => exact ⟨k + 1, m, true, by omega, by omega, rfl, by go_num, hR2.out⟩
                  case measure => simp [Go.RowKit.intOf]; omega
          · have hz : ¬ (k : Int) < s.size := by omega
            rw [drop_end s k (by omega)] at hR
            simp only [] at hR
            subst hR
            go_wp2_with fail
            go_ret2
            exact ⟨by rw [HX.out]; rfl, rfl⟩
end RG
end Go.Proofs.YtkfddnkeoopfbaaDoor
