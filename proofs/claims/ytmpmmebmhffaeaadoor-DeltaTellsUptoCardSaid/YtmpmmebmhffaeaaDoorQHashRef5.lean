/- Layer 4: the contract of the document's greater. -/
import Derived.Test.YtmpmmebmhffaeaaDoorQHashRef4
set_option linter.all false
set_option maxRecDepth 100000
set_option maxHeartbeats 25600000
namespace Go.Proofs.YtmpmmebmhffaeaaDoor
open Go.RowKit Go.Lib
namespace HR
open HS

/-- A number's words, the least first. -/
def wd (l : List Nat) (i : Nat) : Nat := l.getD i 0
def gtGo (a b : List Nat) : Nat → Bool
  | 0 => false
  | i + 1 => if wd a i = wd b i then gtGo a b i else decide (wd b i < wd a i)
def WordsAt (w : World) (g : Nat) (l : List Nat) : Prop := ∀ j, j < l.length → w.cell? ⟨g, j, none⟩ = some (.int .u64 (wd l j : Nat))
theorem wd_out {l : List Nat} {j : Nat} (h : l.length ≤ j) : wd l j = 0 := by unfold wd; simp [List.getD, List.getElem?_eq_none h]
set_option maxRecDepth 4000 in
set_option maxHeartbeats 1600000 in
theorem rgreater_any (ga gb ca cb : Nat) (a b : List Nat) (w : World) (ha : WordsAt w ga a) (hb : WordsAt w gb b) (hla : a.length ≤ 1000) (hlb : b.length ≤ 1000) :
    Calls Tryd.prog 65 #[.slice (some ⟨ga, 0, none⟩) a.length ca, .slice (some ⟨gb, 0, none⟩) b.length cb] w fun e w' => e = .returned (.bool (gtGo a b (max a.length b.length))) ∧ w = w' := by
  have HA := Lib.hid ha
  have HB := Lib.hid hb
  clear ha hb
  have hlaz : (a.length : Int) ≤ 1000 := by omega
  have hlbz : (b.length : Int) ≤ 1000 := by omega
  obtain ⟨n, hn⟩ : ∃ n, max a.length b.length = n := ⟨_, rfl⟩
  rw [hn]
  have HN := Lib.hid hn
  clear hn
  go_enter Tryd.func65, Tryd.ntmps65
  go_wp2_with fail
  case inl =>
    have h9n : a.length ≤ b.length := by omega
    go_loop [5] (fun s5 => ∃ (i : Nat) (z : Int), s5 = .int .i64 z ∧ z = i - 1 ∧ i ≤ 1000 ∧ gtGo a b n = gtGo a b i) (fun s5 => (Go.RowKit.intOf s5 + 1).toNat)
    case atStart => exact ⟨b.length, _, rfl, rfl, by omega, by rw [show n = b.length by have := HN.out; omega]⟩
    case round =>
      obtain ⟨i, z, rfl, hz, hi, hg⟩ := hrel
      have HG := Lib.hid hg
      clear hg
      cases i with
      | zero =>
        have hz1 : z = -1 := by omega
        subst hz1
        clear hz
        go_wp2
        go_ret
        exact ⟨by rw [HG.out]; rfl, rfl⟩
      | succ j =>
        have hzj : z = (j : Int) := by omega
        subst hzj
        clear hz
        have HS := Lib.hid (show gtGo a b (j + 1) = if wd a j = wd b j then gtGo a b j else decide (wd b j < wd a j) from rfl)
        by_cases hja : j < a.length
        · have hjaz : (j : Int) < a.length := by omega
          by_cases hjb : j < b.length
          · have hjbz : (j : Int) < b.length := by omega
            by_cases he : wd a j = wd b j
            · have HR := Lib.hid (HG.out.trans (HS.out.trans (if_pos he)))
              have hez : ((wd a j : Nat) : Int) = (wd b j : Nat) := by omega
              have cA := HA.out j hja
              have cB := HB.out j hjb
              generalize wd a j = x at *; generalize wd b j = y at *; have exy : x = y := he; subst exy; clear he hez
              go_wp2_with fail
              go_round
              case rel => exact ⟨j, _, rfl, rfl, by omega, HR.out⟩
              case measure => simp [Go.RowKit.intOf]
            · have hez : ¬ ((wd a j : Nat) : Int) = (wd b j : Nat) := by omega
              have HR := Lib.hid (HG.out.trans (HS.out.trans (if_neg he)))
              have cA := HA.out j hja
              have cB := HB.out j hjb
              skip
              go_wp2_with fail
              all_goals go_ret
              all_goals exact ⟨by rw [HR.out]; simp, rfl⟩
          · have hjbz : ¬ (j : Int) < b.length := by omega
            by_cases he : wd a j = wd b j
            · have HR := Lib.hid (HG.out.trans (HS.out.trans (if_pos he)))
              have hez : ((wd a j : Nat) : Int) = (wd b j : Nat) := by omega
              have cA := HA.out j hja
              have eB : wd b j = 0 := wd_out (by omega)
              rw [eB] at he; rw [he] at cA; clear hez he
              go_wp2_with fail
              go_round
              case rel => exact ⟨j, _, rfl, rfl, by omega, HR.out⟩
              case measure => simp [Go.RowKit.intOf]
            · have hez : ¬ ((wd a j : Nat) : Int) = (wd b j : Nat) := by omega
              have HR := Lib.hid (HG.out.trans (HS.out.trans (if_neg he)))
              have cA := HA.out j hja
              have eB : wd b j = 0 := wd_out (by omega)
              rw [eB] at hez he HR
              go_wp2_with fail
              all_goals go_ret
              all_goals exact ⟨by rw [HR.out]; simp, rfl⟩
        · have hjaz : ¬ (j : Int) < a.length := by omega
          by_cases hjb : j < b.length
          · have hjbz : (j : Int) < b.length := by omega
            by_cases he : wd a j = wd b j
            · have HR := Lib.hid (HG.out.trans (HS.out.trans (if_pos he)))
              have hez : ((wd a j : Nat) : Int) = (wd b j : Nat) := by omega
              have eA : wd a j = 0 := wd_out (by omega)
              have cB := HB.out j hjb
              rw [eA] at he; rw [← he] at cB; clear hez he
              go_wp2_with fail
              go_round
              case rel => exact ⟨j, _, rfl, rfl, by omega, HR.out⟩
              case measure => simp [Go.RowKit.intOf]
            · have hez : ¬ ((wd a j : Nat) : Int) = (wd b j : Nat) := by omega
              have HR := Lib.hid (HG.out.trans (HS.out.trans (if_neg he)))
              have eA : wd a j = 0 := wd_out (by omega)
              have cB := HB.out j hjb
              rw [eA] at hez he HR
              go_wp2_with fail
              all_goals go_ret
              all_goals exact ⟨by rw [HR.out]; simp, rfl⟩
          · have hjbz : ¬ (j : Int) < b.length := by omega
            by_cases he : wd a j = wd b j
            · have HR := Lib.hid (HG.out.trans (HS.out.trans (if_pos he)))
              have hez : ((wd a j : Nat) : Int) = (wd b j : Nat) := by omega
              have eA : wd a j = 0 := wd_out (by omega)
              have eB : wd b j = 0 := wd_out (by omega)
              clear hez he
              go_wp2_with fail
              go_round
              case rel => exact ⟨j, _, rfl, rfl, by omega, HR.out⟩
              case measure => simp [Go.RowKit.intOf]
            · exact absurd (by rw [wd_out (by omega), wd_out (by omega)]) he
  case inr =>
    have h9n : b.length ≤ a.length := by omega
    go_loop [5] (fun s5 => ∃ (i : Nat) (z : Int), s5 = .int .i64 z ∧ z = i - 1 ∧ i ≤ 1000 ∧ gtGo a b n = gtGo a b i) (fun s5 => (Go.RowKit.intOf s5 + 1).toNat)
    case atStart => exact ⟨a.length, _, rfl, rfl, by omega, by rw [show n = a.length by have := HN.out; omega]⟩
    case round =>
      obtain ⟨i, z, rfl, hz, hi, hg⟩ := hrel
      have HG := Lib.hid hg
      clear hg
      cases i with
      | zero =>
        have hz1 : z = -1 := by omega
        subst hz1
        clear hz
        go_wp2
        go_ret
        exact ⟨by rw [HG.out]; rfl, rfl⟩
      | succ j =>
        have hzj : z = (j : Int) := by omega
        subst hzj
        clear hz
        have HS := Lib.hid (show gtGo a b (j + 1) = if wd a j = wd b j then gtGo a b j else decide (wd b j < wd a j) from rfl)
        by_cases hja : j < a.length
        · have hjaz : (j : Int) < a.length := by omega
          by_cases hjb : j < b.length
          · have hjbz : (j : Int) < b.length := by omega
            by_cases he : wd a j = wd b j
            · have HR := Lib.hid (HG.out.trans (HS.out.trans (if_pos he)))
              have hez : ((wd a j : Nat) : Int) = (wd b j : Nat) := by omega
              have cA := HA.out j hja
              have cB := HB.out j hjb
              generalize wd a j = x at *; generalize wd b j = y at *; have exy : x = y := he; subst exy; clear he hez
              go_wp2_with fail
              go_round
              case rel => exact ⟨j, _, rfl, rfl, by omega, HR.out⟩
              case measure => simp [Go.RowKit.intOf]
            · have hez : ¬ ((wd a j : Nat) : Int) = (wd b j : Nat) := by omega
              have HR := Lib.hid (HG.out.trans (HS.out.trans (if_neg he)))
              have cA := HA.out j hja
              have cB := HB.out j hjb
              skip
              go_wp2_with fail
              all_goals go_ret
              all_goals exact ⟨by rw [HR.out]; simp, rfl⟩
          · have hjbz : ¬ (j : Int) < b.length := by omega
            by_cases he : wd a j = wd b j
            · have HR := Lib.hid (HG.out.trans (HS.out.trans (if_pos he)))
              have hez : ((wd a j : Nat) : Int) = (wd b j : Nat) := by omega
              have cA := HA.out j hja
              have eB : wd b j = 0 := wd_out (by omega)
              rw [eB] at he; rw [he] at cA; clear hez he
              go_wp2_with fail
              go_round
              case rel => exact ⟨j, _, rfl, rfl, by omega, HR.out⟩
              case measure => simp [Go.RowKit.intOf]
            · have hez : ¬ ((wd a j : Nat) : Int) = (wd b j : Nat) := by omega
              have HR := Lib.hid (HG.out.trans (HS.out.trans (if_neg he)))
              have cA := HA.out j hja
              have eB : wd b j = 0 := wd_out (by omega)
              rw [eB] at hez he HR
              go_wp2_with fail
              all_goals go_ret
              all_goals exact ⟨by rw [HR.out]; simp, rfl⟩
        · have hjaz : ¬ (j : Int) < a.length := by omega
          by_cases hjb : j < b.length
          · have hjbz : (j : Int) < b.length := by omega
            by_cases he : wd a j = wd b j
            · have HR := Lib.hid (HG.out.trans (HS.out.trans (if_pos he)))
              have hez : ((wd a j : Nat) : Int) = (wd b j : Nat) := by omega
              have eA : wd a j = 0 := wd_out (by omega)
              have cB := HB.out j hjb
              rw [eA] at he; rw [← he] at cB; clear hez he
              go_wp2_with fail
              go_round
              case rel => exact ⟨j, _, rfl, rfl, by omega, HR.out⟩
              case measure => simp [Go.RowKit.intOf]
            · have hez : ¬ ((wd a j : Nat) : Int) = (wd b j : Nat) := by omega
              have HR := Lib.hid (HG.out.trans (HS.out.trans (if_neg he)))
              have eA : wd a j = 0 := wd_out (by omega)
              have cB := HB.out j hjb
              rw [eA] at hez he HR
              go_wp2_with fail
              all_goals go_ret
              all_goals exact ⟨by rw [HR.out]; simp, rfl⟩
          · have hjbz : ¬ (j : Int) < b.length := by omega
            by_cases he : wd a j = wd b j
            · have HR := Lib.hid (HG.out.trans (HS.out.trans (if_pos he)))
              have hez : ((wd a j : Nat) : Int) = (wd b j : Nat) := by omega
              have eA : wd a j = 0 := wd_out (by omega)
              have eB : wd b j = 0 := wd_out (by omega)
              clear hez he
              go_wp2_with fail
              go_round
              case rel => exact ⟨j, _, rfl, rfl, by omega, HR.out⟩
              case measure => simp [Go.RowKit.intOf]
            · exact absurd (by rw [wd_out (by omega), wd_out (by omega)]) he
end HR
end Go.Proofs.YtmpmmebmhffaeaaDoor
