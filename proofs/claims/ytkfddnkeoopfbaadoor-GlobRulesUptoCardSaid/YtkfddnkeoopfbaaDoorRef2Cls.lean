/- The document's answer: where brackets close. -/
import Derived.Test.YtkfddnkeoopfbaaDoorRefParts
import Derived.Test.YtkfddnkeoopfbaaDoorGlobRead
namespace Go.Proofs.YtkfddnkeoopfbaaDoor
open Go.RowKit Go.Lib
namespace RG
def clR : List UInt8 → Nat → Nat → Option Nat
  | [], _, _ => none
  | x :: r, i, fr =>
    if x = 47 then none
    else if x = 92 then (match r with
      | [] => none
      | y :: r2 => if y = 47 then none else clR r2 (i + 2) fr)
    else if x = 93 then (if i = fr then none else some i)
    else clR r (i + 1) fr
theorem clR_nil (i fr : Nat) : clR [] i fr = none := by rw [clR]
theorem clR_cons (x : UInt8) (r : List UInt8) (i fr : Nat) : clR (x :: r) i fr = if x = 47 then none
    else if x = 92 then (match r with
      | [] => none
      | y :: r2 => if y = 47 then none else clR r2 (i + 2) fr)
    else if x = 93 then (if i = fr then none else some i)
    else clR r (i + 1) fr := by
  cases r <;> simp only [clR]
def clI : Option Nat → Int
  | none => -1
  | some e => e
def clF (l : List UInt8) (a : Nat) : Nat := if (l.drop (a + 1)).head? = some 33 then a + 2 else a + 1
def clL (l : List UInt8) (a : Nat) : Option Nat := clR (l.drop (clF l a)) (clF l a) (clF l a)
theorem drop_at (s : ByteArray) (k : Nat) (h : k < s.size) : s.data.toList.drop k = s[k] :: s.data.toList.drop (k + 1) := by
  have hl : k < s.data.toList.length := by rw [← Lib.size_eq]; exact h
  rw [List.drop_eq_getElem_cons hl]
  rfl
theorem drop_end (s : ByteArray) (k : Nat) (h : s.size ≤ k) : s.data.toList.drop k = [] := List.drop_of_length_le (by rw [← Lib.size_eq]; exact h)
def ClPost (R : Option Nat) (w : World) (e : Ending) (w' : World) : Prop := e = .returned (.int .i64 (clI R)) ∧ w = w'
set_option maxRecDepth 100000 in
set_option maxHeartbeats 1600000 in
theorem closing_any (s : ByteArray) (a : Nat) (w : World) (ha : a < s.size) (hs : s.size ≤ 400) :
    Calls Tryd.prog 32 #[.string s, .int .i64 a] w (ClPost (clL s.data.toList a) w) := by
  obtain ⟨fr, hfr, hf1, hf2⟩ : ∃ fr, fr = clF s.data.toList a ∧ a + 1 ≤ fr ∧ fr ≤ s.size := by
    refine ⟨_, rfl, by unfold clF; split <;> omega, ?_⟩
    unfold clF
    split
    · rename_i h
      by_cases h2 : a + 1 < s.size
      · omega
      · rw [drop_end s (a + 1) (by omega)] at h
        cases h
    · omega
  have HR : Hid (clR (s.data.toList.drop fr) fr fr = clL s.data.toList a) := Lib.hid (by unfold clL; rw [hfr])
  generalize clL s.data.toList a = R at HR
  by_cases h1 : a + 1 < s.size
  · have h1z : ((a : Int) + 1) < s.size := by omega
    have hd := drop_at s (a + 1) h1
    unfold clF at hfr
    rw [hd] at hfr
    simp only [List.head?_cons, Option.some.injEq] at hfr
    by_cases h33 : s[a + 1] = 33
    · have hb : ((((s[a + 1]).toNat : Nat) : Int) == 33) = true := by rw [h33]; rfl
      rw [if_pos h33] at hfr
      subst hfr
      clear h33 hd
      go_enter Tryd.func32, Tryd.ntmps32
      go_wp2_with fail
      go_loop [6] (fun s6 => ∃ k : Nat, k ≤ s.size ∧ s6 = .int .i64 k ∧ clR (s.data.toList.drop k) k (a + 2) = R) (fun s6 => s.size - (Go.RowKit.intOf s6).toNat)
      case atStart => exact ⟨a + 2, by omega, by go_num, HR.out⟩
      case round =>
        obtain ⟨k, hk, rfl, hR⟩ := hrel
        by_cases hlt : k < s.size
        · have hz : (k : Int) < s.size := by omega
          rw [drop_at s k hlt, clR_cons] at hR
          by_cases h47 : s[k] = 47
          · have e47 : ((((s[k]).toNat : Nat) : Int) == 47) = true := by rw [h47]; rfl
            rw [if_pos h47] at hR
            subst hR
            clear h47
            go_wp2_with fail
            go_ret
            exact ⟨rfl, rfl⟩
          · have e47 : ((((s[k]).toNat : Nat) : Int) == 47) = false := GR.byte_no h47
            rw [if_neg h47] at hR
            clear h47
            by_cases h92 : s[k] = 92
            · have e92 : ((((s[k]).toNat : Nat) : Int) == 92) = true := by rw [h92]; rfl
              rw [if_pos h92] at hR
              clear h92
              by_cases hl2 : k + 1 < s.size
              · have hz2 : ((k : Int) + 1) < s.size := by omega
                have hz3 : ¬ (s.size : Int) ≤ ((k : Int) + 1) := by omega
                rw [drop_at s (k + 1) hl2] at hR
                simp only [] at hR
                by_cases h47 : s[k + 1] = 47
                · have f47 : ((((s[k + 1]).toNat : Nat) : Int) == 47) = true := by rw [h47]; rfl
                  rw [if_pos h47] at hR
                  subst hR
                  clear h47
                  go_wp2_with fail
                  go_ret
                  exact ⟨rfl, rfl⟩
                · have f47 : ((((s[k + 1]).toNat : Nat) : Int) == 47) = false := GR.byte_no h47
                  rw [if_neg h47] at hR
                  have hR2 := Lib.hid hR
                  clear h47 hR
                  go_wp2_with fail
                  go_round
                  case rel => exact ⟨k + 2, by omega, by go_num, hR2.out⟩
                  case measure => simp [Go.RowKit.intOf]; omega
              · have hz3 : (s.size : Int) ≤ ((k : Int) + 1) := by omega
                rw [drop_end s (k + 1) (by omega)] at hR
                simp only [] at hR
                subst hR
                go_wp2_with fail
                go_ret
                exact ⟨rfl, rfl⟩
            · have e92 : ((((s[k]).toNat : Nat) : Int) == 92) = false := GR.byte_no h92
              rw [if_neg h92] at hR
              clear h92
              by_cases h93 : s[k] = 93
              · have e93 : ((((s[k]).toNat : Nat) : Int) == 93) = true := by rw [h93]; rfl
                rw [if_pos h93] at hR
                clear h93
                by_cases hkf : k = a + 2
                · have ek : ((k : Int) == ((a : Int) + 1 + 1)) = true := beq_iff_eq.2 (by omega)
                  rw [if_pos hkf] at hR
                  subst hR
                  clear hkf
                  go_wp2_with fail
                  go_ret
                  exact ⟨rfl, rfl⟩
                · have ek : ((k : Int) == ((a : Int) + 1 + 1)) = false := beq_eq_false_iff_ne.2 (by omega)
                  rw [if_neg hkf] at hR
                  subst hR
                  clear hkf
                  go_wp2_with fail
                  go_ret
                  exact ⟨rfl, rfl⟩
              · have e93 : ((((s[k]).toNat : Nat) : Int) == 93) = false := GR.byte_no h93
                rw [if_neg h93] at hR
                have hR2 := Lib.hid hR
                clear h93 hR
                go_wp2_with fail
                go_round
                case rel => exact ⟨k + 1, by omega, by go_num, hR2.out⟩
                case measure => simp [Go.RowKit.intOf]; omega
        · have hz : ¬ (k : Int) < s.size := by omega
          rw [drop_end s k (by omega), clR_nil] at hR
          subst hR
          go_wp2_with fail
          go_ret
          exact ⟨rfl, rfl⟩
    · have hb : ((((s[a + 1]).toNat : Nat) : Int) == 33) = false := GR.byte_no h33
      rw [if_neg h33] at hfr
      subst hfr
      clear h33 hd
      go_enter Tryd.func32, Tryd.ntmps32
      go_wp2_with fail
      go_loop [6] (fun s6 => ∃ k : Nat, k ≤ s.size ∧ s6 = .int .i64 k ∧ clR (s.data.toList.drop k) k (a + 1) = R) (fun s6 => s.size - (Go.RowKit.intOf s6).toNat)
      case atStart => exact ⟨a + 1, by omega, by go_num, HR.out⟩
      case round =>
        obtain ⟨k, hk, rfl, hR⟩ := hrel
        by_cases hlt : k < s.size
        · have hz : (k : Int) < s.size := by omega
          rw [drop_at s k hlt, clR_cons] at hR
          by_cases h47 : s[k] = 47
          · have e47 : ((((s[k]).toNat : Nat) : Int) == 47) = true := by rw [h47]; rfl
            rw [if_pos h47] at hR
            subst hR
            clear h47
            go_wp2_with fail
            go_ret
            exact ⟨rfl, rfl⟩
          · have e47 : ((((s[k]).toNat : Nat) : Int) == 47) = false := GR.byte_no h47
            rw [if_neg h47] at hR
            clear h47
            by_cases h92 : s[k] = 92
            · have e92 : ((((s[k]).toNat : Nat) : Int) == 92) = true := by rw [h92]; rfl
              rw [if_pos h92] at hR
              clear h92
              by_cases hl2 : k + 1 < s.size
              · have hz2 : ((k : Int) + 1) < s.size := by omega
                have hz3 : ¬ (s.size : Int) ≤ ((k : Int) + 1) := by omega
                rw [drop_at s (k + 1) hl2] at hR
                simp only [] at hR
                by_cases h47 : s[k + 1] = 47
                · have f47 : ((((s[k + 1]).toNat : Nat) : Int) == 47) = true := by rw [h47]; rfl
                  rw [if_pos h47] at hR
                  subst hR
                  clear h47
                  go_wp2_with fail
                  go_ret
                  exact ⟨rfl, rfl⟩
                · have f47 : ((((s[k + 1]).toNat : Nat) : Int) == 47) = false := GR.byte_no h47
                  rw [if_neg h47] at hR
                  have hR2 := Lib.hid hR
                  clear h47 hR
                  go_wp2_with fail
                  go_round
                  case rel => exact ⟨k + 2, by omega, by go_num, hR2.out⟩
                  case measure => simp [Go.RowKit.intOf]; omega
              · have hz3 : (s.size : Int) ≤ ((k : Int) + 1) := by omega
                rw [drop_end s (k + 1) (by omega)] at hR
                simp only [] at hR
                subst hR
                go_wp2_with fail
                go_ret
                exact ⟨rfl, rfl⟩
            · have e92 : ((((s[k]).toNat : Nat) : Int) == 92) = false := GR.byte_no h92
              rw [if_neg h92] at hR
              clear h92
              by_cases h93 : s[k] = 93
              · have e93 : ((((s[k]).toNat : Nat) : Int) == 93) = true := by rw [h93]; rfl
                rw [if_pos h93] at hR
                clear h93
                by_cases hkf : k = a + 1
                · have ek : ((k : Int) == ((a : Int) + 1)) = true := beq_iff_eq.2 (by omega)
                  rw [if_pos hkf] at hR
                  subst hR
                  clear hkf
                  go_wp2_with fail
                  go_ret
                  exact ⟨rfl, rfl⟩
                · have ek : ((k : Int) == ((a : Int) + 1)) = false := beq_eq_false_iff_ne.2 (by omega)
                  rw [if_neg hkf] at hR
                  subst hR
                  clear hkf
                  go_wp2_with fail
                  go_ret
                  exact ⟨rfl, rfl⟩
              · have e93 : ((((s[k]).toNat : Nat) : Int) == 93) = false := GR.byte_no h93
                rw [if_neg h93] at hR
                have hR2 := Lib.hid hR
                clear h93 hR
                go_wp2_with fail
                go_round
                case rel => exact ⟨k + 1, by omega, by go_num, hR2.out⟩
                case measure => simp [Go.RowKit.intOf]; omega
        · have hz : ¬ (k : Int) < s.size := by omega
          rw [drop_end s k (by omega), clR_nil] at hR
          subst hR
          go_wp2_with fail
          go_ret
          exact ⟨rfl, rfl⟩
  · have h1z : ¬ ((a : Int) + 1) < s.size := by omega
    have hfr2 : fr = a + 1 := by
      rw [hfr]
      unfold clF
      rw [drop_end s (a + 1) (by omega)]
      rfl
    clear hfr
    subst hfr2
    go_enter Tryd.func32, Tryd.ntmps32
    go_wp2_with fail
    go_loop [6] (fun s6 => ∃ k : Nat, k ≤ s.size ∧ s6 = .int .i64 k ∧ clR (s.data.toList.drop k) k (a + 1) = R) (fun s6 => s.size - (Go.RowKit.intOf s6).toNat)
    case atStart => exact ⟨a + 1, by omega, by go_num, HR.out⟩
    case round =>
      obtain ⟨k, hk, rfl, hR⟩ := hrel
      by_cases hlt : k < s.size
      · have hz : (k : Int) < s.size := by omega
        rw [drop_at s k hlt, clR_cons] at hR
        by_cases h47 : s[k] = 47
        · have e47 : ((((s[k]).toNat : Nat) : Int) == 47) = true := by rw [h47]; rfl
          rw [if_pos h47] at hR
          subst hR
          clear h47
          go_wp2_with fail
          go_ret
          exact ⟨rfl, rfl⟩
        · have e47 : ((((s[k]).toNat : Nat) : Int) == 47) = false := GR.byte_no h47
          rw [if_neg h47] at hR
          clear h47
          by_cases h92 : s[k] = 92
          · have e92 : ((((s[k]).toNat : Nat) : Int) == 92) = true := by rw [h92]; rfl
            rw [if_pos h92] at hR
            clear h92
            by_cases hl2 : k + 1 < s.size
            · have hz2 : ((k : Int) + 1) < s.size := by omega
              have hz3 : ¬ (s.size : Int) ≤ ((k : Int) + 1) := by omega
              rw [drop_at s (k + 1) hl2] at hR
              simp only [] at hR
              by_cases h47 : s[k + 1] = 47
              · have f47 : ((((s[k + 1]).toNat : Nat) : Int) == 47) = true := by rw [h47]; rfl
                rw [if_pos h47] at hR
                subst hR
                clear h47
                go_wp2_with fail
                go_ret
                exact ⟨rfl, rfl⟩
              · have f47 : ((((s[k + 1]).toNat : Nat) : Int) == 47) = false := GR.byte_no h47
                rw [if_neg h47] at hR
                have hR2 := Lib.hid hR
                clear h47 hR
                go_wp2_with fail
                go_round
                case rel => exact ⟨k + 2, by omega, by go_num, hR2.out⟩
                case measure => simp [Go.RowKit.intOf]; omega
            · have hz3 : (s.size : Int) ≤ ((k : Int) + 1) := by omega
              rw [drop_end s (k + 1) (by omega)] at hR
              simp only [] at hR
              subst hR
              go_wp2_with fail
              go_ret
              exact ⟨rfl, rfl⟩
          · have e92 : ((((s[k]).toNat : Nat) : Int) == 92) = false := GR.byte_no h92
            rw [if_neg h92] at hR
            clear h92
            by_cases h93 : s[k] = 93
            · have e93 : ((((s[k]).toNat : Nat) : Int) == 93) = true := by rw [h93]; rfl
              rw [if_pos h93] at hR
              clear h93
              by_cases hkf : k = a + 1
              · have ek : ((k : Int) == ((a : Int) + 1)) = true := beq_iff_eq.2 (by omega)
                rw [if_pos hkf] at hR
                subst hR
                clear hkf
                go_wp2_with fail
                go_ret
                exact ⟨rfl, rfl⟩
              · have ek : ((k : Int) == ((a : Int) + 1)) = false := beq_eq_false_iff_ne.2 (by omega)
                rw [if_neg hkf] at hR
                subst hR
                clear hkf
                go_wp2_with fail
                go_ret
                exact ⟨rfl, rfl⟩
            · have e93 : ((((s[k]).toNat : Nat) : Int) == 93) = false := GR.byte_no h93
              rw [if_neg h93] at hR
              have hR2 := Lib.hid hR
              clear h93 hR
              go_wp2_with fail
              go_round
              case rel => exact ⟨k + 1, by omega, by go_num, hR2.out⟩
              case measure => simp [Go.RowKit.intOf]; omega
      · have hz : ¬ (k : Int) < s.size := by omega
        rw [drop_end s k (by omega), clR_nil] at hR
        subst hR
        go_wp2_with fail
        go_ret
        exact ⟨rfl, rfl⟩
end RG
end Go.Proofs.YtkfddnkeoopfbaaDoor
