/- Layer 4: the contract of the document's primes. -/
import Derived.Test.YtmpmmebmhffaeaaDoorQHashAbove
set_option linter.all false
set_option maxRecDepth 100000
set_option maxHeartbeats 25600000
namespace Go.Proofs.YtmpmmebmhffaeaaDoor
open Go.RowKit Go.Lib
namespace HX
open HS HR

theorem shape64 {W : World} {B : Nat} {v : Value} {l : List Nat} (h : W.ownsRow B 105 1 v l.length (l.map fun x : Nat => Value.int .u64 x)) : ∃ ao cap, v = .slice ao l.length cap ∧ (0 < l.length → ∃ g, ao = some ⟨g, 0, none⟩ ∧ g < W.heap.size ∧ WordsAt W g l) := by
  by_cases h0 : 0 < l.length
  · obtain ⟨g, cap, hv, hF⟩ := own64 h h0
    exact ⟨_, cap, hv, fun _ => ⟨g, rfl, hF.lt, hF.cells⟩⟩
  · rcases h.2 with ⟨hv, hn⟩ | ⟨g, cap, cur, hv, _⟩
    · exact ⟨none, 0, by rw [hv, hn], fun h1 => absurd h1 h0⟩
    · exact ⟨_, cap, hv, fun h1 => absurd h1 h0⟩
theorem primes_len : (primesN 64).length = 64 := by decide +kernel
theorem primes_small : ∀ q ∈ primesN 64, q < 4294967296 := by decide +kernel
theorem fresh_take (l : List Nat) (p i q : Nat) (h : l[i]? = some q) : isFresh (l.take (i + 1)) p = (isFresh (l.take i) p && (p % q != 0)) := by
  unfold isFresh
  rw [List.take_add_one, h, List.all_append]
  simp
/-- The list of primes, as it is made. -/
def PrLoop (w : World) (s3 s4 : Value) (wr : World) : Prop :=
  ∃ (fuel p : Nat) (l : List Nat), s4 = .int .u64 p ∧ 2 ≤ p ∧ p + fuel = 1002 ∧ primesGo fuel 64 p l = primesN 64 ∧ l.length ≤ 64 ∧ (∀ q ∈ l, 2 ≤ q) ∧ wr.ownsRow w.heap.size 105 1 s3 l.length (l.map fun x : Nat => Value.int .u64 x) ∧ Below w.heap.size w wr
def PrPost (w : World) (r : Ending) (w' : World) : Prop := ∃ g c, r = .returned (.slice (some ⟨g, 0, none⟩) 64 c) ∧ WordsAt w' g (primesN 64) ∧ g < w'.heap.size ∧ Below w.heap.size w w'
set_option maxRecDepth 100000 in
set_option maxHeartbeats 1600000 in
theorem rprimes_any (w : World) : Calls Tryd.prog 49 #[.int .i64 64] w (PrPost w) := by
  obtain ⟨i0, hi0, hz0, hz1, hz2⟩ := info64
  go_enter Tryd.func49, Tryd.ntmps49
  go_wp2
  go_loopw [3, 4, 5, 6] (fun s3 s4 _ _ wr => PrLoop w s3 s4 wr) (fun _ s4 _ _ _ => 1003 - (Go.RowKit.intOf s4).toNat)
  case atStart => exact ⟨1000, 2, [], rfl, Nat.le_refl _, rfl, rfl, by simp, fun q hq => by simp at hq, World.ownsRow_nil _ _ _ _, Below.refl _ _⟩
  case round =>
    obtain ⟨fuel, p, l, rfl, hp2, hf, hgo, hll, hq2, hown, hb⟩ := hrel
    obtain ⟨ao, cap, hv, hcell⟩ := shape64 hown
    obtain ⟨n, hn⟩ : ∃ n, l.length = n := ⟨_, rfl⟩
    rw [hn] at hv hll hcell
    subst hv
    have HO := Lib.hid hown
    have HB := Lib.hid hb
    have hbs := hb.size
    have HGo := Lib.hid hgo
    have HN := Lib.hid hn
    have HQ := Lib.hid hq2
    have HC := Lib.hid hcell
    have hp1 : (p : Int) ≤ 1002 := by omega
    clear hown hb hgo hn hq2 hcell
    by_cases hlt : n < 64
    · have hz : (n : Int) < 64 := by omega
      obtain ⟨f, rfl⟩ : ∃ f, fuel = f + 1 := by
        cases fuel with
        | zero =>
          have h := HGo.out
          rw [primesGo] at h
          have := primes_len
          rw [← h, HN.out] at this
          omega
        | succ f => exact ⟨f, rfl⟩
      have HGo2 : Hid (primesGo f 64 (p + 1) (if isFresh l p = true then l ++ [p] else l) = primesN 64) := Lib.hid (by
        have h := HGo.out
        rw [primesGo, if_neg (by rw [HN.out]; omega)] at h
        exact h)
      clear HGo
      go_wp2_with fail
      go_loop [5, 6] (fun s5 s6 => ∃ i : Nat, i ≤ n ∧ s6 = .int .i64 i ∧ s5 = .bool (isFresh (l.take i) p)) (fun _ s6 => n - (Go.RowKit.intOf s6).toNat)
      case atStart => exact ⟨0, Nat.zero_le _, rfl, rfl⟩
      case round =>
        obtain ⟨i, hi, rfl, rfl⟩ := hrel
        by_cases hil : i < n
        · have hiz : (i : Int) < n := by omega
          obtain ⟨g, rfl, hg, hW⟩ := HC.out (by omega)
          have hx : l[i]? = some (wd l i) := by
            have h1 : i < l.length := by rw [HN.out]; exact hil
            rw [List.getElem?_eq_getElem h1]
            congr 1
            exact (wd_get (List.getElem?_eq_getElem h1)).symm
          have cq := hW i (by rw [HN.out]; exact hil)
          obtain ⟨q, hq⟩ : ∃ q, wd l i = q := ⟨_, rfl⟩
          rw [hq] at hx cq
          have h2 : 2 ≤ q := HQ.out q (List.mem_of_getElem? hx)
          have hq0 : ¬ (q : Int) = 0 := by omega
          have hqp : (0 : Int) < q := by omega
          have HT := Lib.hid (fresh_take l p i q hx)
          obtain ⟨b, hb⟩ : ∃ b, isFresh (l.take i) p = b := ⟨_, rfl⟩
          have HBb := Lib.hid hb
          rw [hb]
          clear hx hq hb
          by_cases hm : p % q = 0
          · have hmb : ((p : Int) % (q : Int) == 0) = true := by rw [beq_iff_eq]; omega
            have HM := Lib.hid hm
            clear hm
            go_wp2_with fail
            go_round
            case rel => exact ⟨i + 1, by omega, by go_num, by rw [HT.out, HM.out]; simp⟩
            case measure => simp [Go.RowKit.intOf]; omega
          · have hmb : ((p : Int) % (q : Int) == 0) = false := by rw [beq_eq_false_iff_ne]; omega
            have HM := Lib.hid hm
            clear hm
            go_wp2_with fail
            go_round
            case rel => exact ⟨i + 1, by omega, by go_num, by rw [HT.out, HBb.out]; have := HM.out; simp [this]⟩
            case measure => simp [Go.RowKit.intOf]; omega
        · have hiz : ¬ (i : Int) < n := by omega
          have HT : Hid (l.take i = l) := Lib.hid (List.take_of_length_le (by rw [HN.out]; omega))
          rw [HT.out]
          by_cases hfr : isFresh l p = true
          · have HGo3 : Hid (primesGo f 64 (p + 1) (l ++ [p]) = primesN 64) := Lib.hid (by have h := HGo2.out; rw [if_pos hfr] at h; exact h)
            rw [hfr]
            clear HGo2 hfr
            go_wp2_with (at_builtin; refine wpList_append_own _ rfl _ _ 102 rfl w.heap.size 105 i0 (.int .u64 0) 1 8 Tryd.underlying102 hi0 hz0 hz1 hz2 rfl (by decide) _ _ _ rfl (HO.out.alloc _) ⟨wr.heap.size, 0, none⟩ 1 1 [_] rfl rfl (one_cell64 _ _ _) (fun x hx => by simp at hx; subst hx; rfl) (by rw [HN.out]; unfold maxLen; omega) (by rw [HN.out]; omega) (by simp; omega) ?_; intro v6 w6 hown6 hgrow6 hnil6; have HO6 := Lib.hid hown6; have HB6 := Lib.hid (Below.grown (Below.alloc HB.out hbs _) hgrow6 (by simp; omega) (fun j hj => (HO.out.lt j hj).1)); clear hown6 hgrow6 hnil6)
            go_roundw
            case rel =>
              refine ⟨f, p + 1, l ++ [p], by go_num, by omega, by omega, HGo3.out, by rw [List.length_append, HN.out]; exact hlt, fun q hq => ?_, ?_, HB6.out⟩
              · rcases List.mem_append.1 hq with h | h
                · exact HQ.out q h
                · rw [List.mem_singleton] at h
                  omega
              · have h := HO6.out
                rw [List.length_append, List.map_append]
                exact h
            case measure => simp [Go.RowKit.intOf]; omega
          · have HGo3 : Hid (primesGo f 64 (p + 1) l = primesN 64) := Lib.hid (by have h := HGo2.out; rw [if_neg hfr] at h; exact h)
            rw [Bool.not_eq_true] at hfr
            rw [hfr]
            clear HGo2 hfr
            go_wp2_with fail
            go_roundw
            case rel => exact ⟨f, p + 1, l, by go_num, by omega, by omega, HGo3.out, by rw [HN.out]; exact hll, HQ.out, by have h := HO.out; rw [HN.out] at h ⊢; exact h, HB.out⟩
            case measure => simp [Go.RowKit.intOf]; omega
    · have hz : ¬ (n : Int) < 64 := by omega
      have en : n = 64 := by omega
      subst en
      obtain ⟨g, rfl, hg, hW⟩ := HC.out (by decide)
      have HL : Hid (l = primesN 64) := Lib.hid (by
        have h := HGo.out
        cases fuel with
        | zero => exact h
        | succ f => rw [primesGo, if_pos (by rw [HN.out]; exact Nat.le_refl _)] at h; exact h)
      have HW := Lib.hid hW
      clear hW
      go_wp2_with fail
      go_ret
      exact ⟨g, cap, rfl, HL.out ▸ HW.out, hg, HB.out⟩
end HX
end Go.Proofs.YtmpmmebmhffaeaaDoor
