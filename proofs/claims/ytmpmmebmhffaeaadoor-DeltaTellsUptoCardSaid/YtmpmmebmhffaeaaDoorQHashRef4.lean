/- Layer 4: the contract of the document's fraction, by that of its above. -/
import Derived.Test.YtmpmmebmhffaeaaDoorQHashRef3
import Derived.Lib.QuietBelow
set_option linter.all false
set_option maxRecDepth 100000
set_option maxHeartbeats 25600000
namespace Go.Proofs.YtmpmmebmhffaeaaDoor
open Go.RowKit Go.Lib
namespace HR
open HS

def AboveOf (p k : Nat) : Prop := ∀ (x : Nat) (w : World), x < 32 * 4294967296 → Calls Tryd.prog 59 #[.int .u64 x, .int .u64 p, .int .i64 k] w fun e w' => e = .returned (.bool (aboveN x p k)) ∧ Below w.heap.size w w'
theorem bisect_step {f p k lo hi : Nat} (h : ¬ hi - lo ≤ 1) : bisect (f + 1) p k lo hi = if aboveN ((lo + hi) / 2) p k = true then bisect f p k lo ((lo + hi) / 2) else bisect f p k ((lo + hi) / 2) hi := by
  rw [bisect, if_neg h]
theorem bisect_end {f p k lo hi : Nat} (h : hi - lo ≤ 1) : bisect f p k lo hi = lo := by
  cases f with
  | zero => rfl
  | succ f => rw [bisect, if_pos h]
set_option maxRecDepth 100000 in
set_option maxHeartbeats 1600000 in
theorem rfrac_any (p k : Nat) (w : World) (cA : AboveOf p k) :
    Calls Tryd.prog 50 #[.int .u64 p, .int .i64 k] w fun e w' => e = .returned (.int .u32 (fracN p k : Nat)) ∧ Below w.heap.size w w' := by
  have CA := Lib.hid cA
  clear cA
  go_enter Tryd.func50, Tryd.ntmps50
  go_wp2
  go_loopw [5, 6] (fun s5 s6 wr => ∃ f lo hi : Nat, s5 = .int .u64 lo ∧ s6 = .int .u64 hi ∧ lo < hi ∧ hi ≤ 137438953472 ∧ hi - lo ≤ 2 ^ f ∧ bisect 64 p k 0 (32 * 4294967296) = bisect (f + 27) p k lo hi ∧ Below w.heap.size w wr) (fun s5 s6 _ => (Go.RowKit.intOf s6).toNat - (Go.RowKit.intOf s5).toNat)
  case atStart => exact ⟨37, 0, 137438953472, rfl, rfl, by omega, by omega, by decide, rfl, Below.refl _ _⟩
  case round =>
    obtain ⟨f, lo, hi, rfl, rfl, hlt, hhi, hf, hbi, hb⟩ := hrel
    have HB := Lib.hid hb
    have HF := Lib.hid hf
    have HE := Lib.hid hbi
    clear hb hf hbi
    have hltz : (lo : Int) < hi := by omega
    have hhiz : (hi : Int) ≤ 137438953472 := by omega
    by_cases hd : hi - lo ≤ 1
    · have hdz : ¬ (1 : Int) < (hi : Int) - lo := by omega
      go_wp2_with fail
      go_ret
      have e : fracN p k = lo % 4294967296 := by unfold fracN; rw [HE.out, bisect_end hd]
      exact ⟨by rw [e]; rfl, HB.out⟩
    · have hdz : (1 : Int) < (hi : Int) - lo := by omega
      obtain ⟨mid, hmid⟩ : ∃ mid, (lo + hi) / 2 = mid := ⟨_, rfl⟩
      have hme : ((lo : Int) + hi) / 2 = (mid : Int) := by omega
      go_wp2_with fail
      have HM := Lib.hid hmid
      have hml : lo < mid := by omega
      have hmh : mid < hi := by omega
      have h2 : Hid (mid - lo ≤ 2 ^ (f - 1) ∧ hi - mid ≤ 2 ^ (f - 1) ∧ f = (f - 1) + 1) := Lib.hid (by
        have h := HF.out
        cases f with
        | zero => simp at h; omega
        | succ f =>
          rw [Nat.pow_succ] at h
          rw [show f + 1 - 1 = f by omega]
          omega)
      have HS := Lib.hid (show bisect (f + 27) p k lo hi = if aboveN mid p k = true then bisect (f - 1 + 27) p k lo mid else bisect (f - 1 + 27) p k mid hi by
        rw [← HM.out, ← bisect_step hd, show f - 1 + 27 + 1 = f + 27 by have := h2.out.2.2; omega])
      refine (CA.out mid wr (by omega)).mono ?_
      rintro e w2 ⟨rfl, hb2⟩
      have HB2 := Lib.hid (Below.trans HB.out (hb2.mono HB.out.size))
      clear hb2
      clear hmid
      by_cases hab : aboveN mid p k = true
      · have HS2 := Lib.hid (HE.out.trans (HS.out.trans (if_pos hab)))
        rw [hab]
        go_wp2_with fail
        go_roundw
        case rel => exact ⟨f - 1, lo, mid, rfl, rfl, hml, by omega, h2.out.1, HS2.out, HB2.out⟩
        case measure => simp [Go.RowKit.intOf]; omega
      · have HS2 := Lib.hid (HE.out.trans (HS.out.trans (if_neg hab)))
        rw [Bool.not_eq_true] at hab
        rw [hab]
        go_wp2_with fail
        go_roundw
        case rel => exact ⟨f - 1, mid, hi, rfl, rfl, hmh, by omega, h2.out.2.1, HS2.out, HB2.out⟩
        case measure => simp [Go.RowKit.intOf]; omega
end HR
end Go.Proofs.YtmpmmebmhffaeaaDoor
