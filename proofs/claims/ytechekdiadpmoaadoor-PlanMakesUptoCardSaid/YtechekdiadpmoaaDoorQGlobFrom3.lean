/- Layer 2: the contracts of from, matches, Match, Check. -/
import Derived.Test.YtechekdiadpmoaaDoorQGlobFrom2
import Derived.Test.YtechekdiadpmoaaDoorQGlobPat
set_option linter.all false
set_option maxRecDepth 100000
set_option maxHeartbeats 25600000
namespace Go.Proofs.YtechekdiadpmoaaDoor
open Go.RowKit Go.Lib
namespace GH
open GP GM
open Go.ChangeMaps (setBlock)

set_option maxRecDepth 100000 in
set_option maxHeartbeats 3200000 in
theorem from_end (ps : List Pt) (xs : List ByteArray) (vp : Value) (ap : Option Addr) (cp gn o cn b j : Nat) (w : World) (hv : vp = .slice ap ps.length cp) (hj : j ≤ xs.length) (hp1 : ps.length ≤ 1000) (hx1 : xs.length ≤ 1000) :
    Calls Tryd.prog 75 #[.agg #[vp, .slice (some ⟨gn, o, none⟩) xs.length cn, .map (some b)], .int .i64 ps.length, .int .i64 j] w (fun e w' => e = .returned (.bool (decide (xs.length ≤ j))) ∧ Below w.heap.size w w') := by
  subst hv
  by_cases hje : j = xs.length
  · have hjb : ((j : Int) == (xs.length : Int)) = true := by rw [hje]; simp
    have HX : Hid (decide (xs.length ≤ j) = true) := Lib.hid (decide_eq_true (by omega))
    go_enter Tryd.func75, Tryd.ntmps75
    go_wp2_with fail
    go_ret
    refine ⟨by rw [HX.out]; first | rfl | (rw [hjb]; rfl), ?_⟩
    repeat' (first | exact Below.refl _ _ | refine Below.alloc ?_ (by simp <;> omega) _)
  · have hjb : ((j : Int) == (xs.length : Int)) = false := beq_eq_false_iff_ne.2 (by omega)
    have HX : Hid (decide (xs.length ≤ j) = false) := Lib.hid (decide_eq_false (by omega))
    go_enter Tryd.func75, Tryd.ntmps75
    go_wp2_with fail
    go_ret
    refine ⟨by rw [HX.out]; first | rfl | (rw [hjb]; rfl), ?_⟩
    repeat' (first | exact Below.refl _ _ | refine Below.alloc ?_ (by simp <;> omega) _)
set_option maxRecDepth 100000 in
set_option maxHeartbeats 3200000 in
theorem from_past (ps : List Pt) (xs : List ByteArray) (gp cp gn o cn b i j : Nat) (pa : Option Addr) (pj pc : Nat) (w : World)
    (hil : i < ps.length) (hjl : ¬ j < xs.length) (hj : j ≤ xs.length) (hp1 : ps.length ≤ 1000) (hx1 : xs.length ≤ 1000)
    (hgp : gp < w.heap.size) (c1 : w.cell? ⟨gp, i * 2, none⟩ = some (.bool false)) (c2 : w.cell? ⟨gp, i * 2 + 1, none⟩ = some (.slice pa pj pc)) :
    Calls Tryd.prog 75 #[.agg #[.slice (some ⟨gp, 0, none⟩) ps.length cp, .slice (some ⟨gn, o, none⟩) xs.length cn, .map (some b)], .int .i64 i, .int .i64 j] w (fun e w' => e = .returned (.bool false) ∧ Below w.heap.size w w') := by
  have hiz : ¬ (i : Int) = ps.length := by omega
  have hilz : (i : Int) < ps.length := by omega
  have hjz : ¬ (j : Int) < xs.length := by omega
  have hjd : decide ((j : Int) < xs.length) = false := decide_eq_false hjz
  go_enter Tryd.func75, Tryd.ntmps75
  go_wp2_with fail
  go_quiet (fail)
  go_wp2_with fail
  go_ret
  refine ⟨rfl, ?_⟩
  repeat' (first | exact Below.refl _ _ | refine Below.drew ?_ | refine below_drewN ?_ | refine Below.alloc ?_ (by simp <;> omega) _)
theorem from_any (ps : List Pt) (hfew : Few ps) (xs : List ByteArray) (hxs : ∀ x ∈ xs, x.size ≤ maxLen) (hxl : xs.length ≤ 1000) (vp : Value) (gn o cn b : Nat) (m : Nat) : ∀ (i j : Nat) (D : List (Nat × Nat)) (w : World),
    (ps.length - i) + (xs.length - j) ≤ m → i ≤ ps.length → j ≤ xs.length → LPts w vp ps → NamesAt w gn o xs → MapIs w b D →
    (∀ p ∈ D, i ≤ p.1 → j ≤ p.2 → sf ps (xs.map (·.data.toList)) p) →
    Calls Tryd.prog 75 #[.agg #[vp, .slice (some ⟨gn, o, none⟩) xs.length cn, .map (some b)], .int .i64 i, .int .i64 j] w (FromPost ps (xs.map (·.data.toList)) D b i j w) := by
  induction m with
  | zero =>
    intro i j D w hm hi hj hp hn hM hD
    obtain ⟨hpl, ap, cp, hv⟩ := pts_val hp
    obtain rfl : i = ps.length := by omega
    refine (from_end ps xs vp ap cp gn o cn b j w hv hj hfew.1 hxl).mono ?_
    rintro e w' ⟨rfl, hb⟩
    exact FromPost.of (by rw [mat_end (Nat.le_refl _), List.length_map]) hM hb
  | succ m ih =>
    intro i j D w hm hi hj hp hn hM hD
    obtain ⟨hpl, ap, cp, hv⟩ := pts_val hp
    by_cases hie : i = ps.length
    · subst hie
      refine (from_end ps xs vp ap cp gn o cn b j w hv hj hfew.1 hxl).mono ?_
      rintro e w' ⟨rfl, hb⟩
      exact FromPost.of (by rw [mat_end (Nat.le_refl _), List.length_map]) hM hb
    · have hil : i < ps.length := by omega
      subst hv
      obtain ⟨p, hpi⟩ : ∃ p, ps[i]? = some p := ⟨ps[i], List.getElem?_eq_getElem hil⟩
      obtain ⟨gp, mm, pa, pj, pc, rfl, hgp, c1, c2, hlp⟩ := pts_at hp hpi
      cases p with
      | one els =>
        have hmm : mm = false := hlp.1
        subst hmm
        by_cases hjl : j < xs.length
        · obtain ⟨x, hx⟩ : ∃ x, xs[j]? = some x := ⟨xs[j], List.getElem?_eq_getElem hjl⟩
          have hel : els.length ≤ 400 := hfew.2 els (List.mem_of_getElem? hpi)
          have hX := mat_one (ns := xs.map (·.data.toList)) (j := j) (n := x.data.toList) hpi (by rw [List.getElem?_map, hx]; rfl)
          have cF : ∀ W, Below w.heap.size w W → Calls Tryd.prog 97 #[.slice pa pj pc, .string x] W fun e w' => e = .returned (.bool (fitsL els x.data.toList)) ∧ Below W.heap.size W w' :=
            fun W hW => by
              have := GF.fits_any (.slice pa pj pc) els x W (hlp.2.below hW) hel (hxs x (List.mem_of_getElem? hx))
              rw [GF.fitsN_eq] at this
              exact this
          cases hfit : fitsL els x.data.toList
          · rw [hfit] at cF hX
            refine (from_one_no ps xs gp cp gn o cn b i j x pa pj pc w hil hjl hfew.1 hxl hgp hn.1 c1 c2 (hn.2 j x hx) cF).mono ?_
            rintro e w' ⟨rfl, hb⟩
            exact FromPost.of (by rw [hX]; rfl) hM hb
          · rw [hfit] at cF hX
            refine (from_one ps xs gp cp gn o cn b i j x pa pj pc D (xs.map (·.data.toList)) w hil hjl hfew.1 hxl hgp hn.1 hM c1 c2 (hn.2 j x hx) cF fun W hW => ?_).mono ?_
            · have h1 := ih (i + 1) (j + 1) D W (by omega) (by omega) (by omega) (hp.below hW) ((cells_below hW).names hW.size hn) (hM.same (hW.block b hM.lt)) (fun p hp h1 h2 => hD p hp (by omega) (by omega))
              have e1 : ((i + 1 : Nat) : Int) = (i : Int) + 1 := by omega
              have e2 : ((j + 1 : Nat) : Int) = (j : Int) + 1 := by omega
              rw [e1, e2] at h1
              exact h1
            · rintro e w' ⟨D', rfl, h1, h2, h3⟩
              have hX2 : mat (ps.drop i) ((xs.map (·.data.toList)).drop j) = mat (ps.drop (i + 1)) ((xs.map (·.data.toList)).drop (j + 1)) := by rw [hX]; rfl
              exact ⟨D', by rw [hX2], h1, h2, fun hf => h3 (by rw [← hX2]; exact hf)⟩
        · refine (from_past ps xs gp cp gn o cn b i j pa pj pc w hil hjl hj hfew.1 hxl hgp c1 c2).mono ?_
          rintro e w' ⟨rfl, hb⟩
          exact FromPost.of (mat_one_end hpi (by rw [List.length_map]; omega)) hM hb
      | stars =>
        have hmm : mm = true := congrArg PT.m (show (⟨mm, .slice pa pj pc⟩ : PT) = ⟨true, .slice none 0 0⟩ from hlp)
        subst hmm
        by_cases hDm : (i, j) ∈ D
        · have hf : mat (ps.drop i) ((xs.map (·.data.toList)).drop j) = false := hD (i, j) hDm (Nat.le_refl _) (Nat.le_refl _)
          refine (from_hit ps xs gp cp gn o cn b i j pa pj pc D w hil hj hfew.1 hxl hgp hM hDm c1 c2).mono ?_
          rintro e w' ⟨rfl, hb⟩
          exact FromPost.of hf hM hb
        · refine from_miss ps xs gp cp gn o cn b i j pa pj pc D (xs.map (·.data.toList)) w hil hj hfew.1 hxl hgp hM hDm hD (fun hje => ?_) (fun hjl => ?_) (fun W D' hk hs hM' hD' => ?_) (fun hjl W D' hk hs hM' hD' => ?_) c1 c2
          · exact mat_stars_end hpi (by rw [List.length_map]; omega)
          · exact mat_stars hpi (n := (xs[j]'hjl).data.toList) (by rw [List.getElem?_map, List.getElem?_eq_getElem hjl]; rfl)
          · have h1 := ih (i + 1) j D' W (by omega) (by omega) hj (hk.pts hp) (hk.names hs hn) hM' hD'
            have e1 : ((i + 1 : Nat) : Int) = (i : Int) + 1 := by omega
            rw [e1] at h1
            exact h1
          · have h1 := ih i (j + 1) D' W (by omega) hi (by omega) (hk.pts hp) (hk.names hs hn) hM' hD'
            have e2 : ((j + 1 : Nat) : Int) = (j : Int) + 1 := by omega
            rw [e2] at h1
            exact h1
end GH
end Go.Proofs.YtechekdiadpmoaaDoor
