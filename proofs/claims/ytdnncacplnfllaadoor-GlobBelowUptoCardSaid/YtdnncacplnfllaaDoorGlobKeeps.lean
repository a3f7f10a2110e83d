/- The walk of GlobKeeps: it answers true, for every list of rules, every path of at most 1048576 bytes and every rule more. -/
import Derived.Test.YtdnncacplnfllaaDoorGlobApp
import Derived.Test.YtdnncacplnfllaaDoorGlobIgnP
import Derived.Test.YtdnncacplnfllaaDoorGlobAwake
import Derived.Test.YtdnncacplnfllaaDoorRefUp
import Derived.Deep.RegionHeld3
namespace Go.Proofs.YtdnncacplnfllaaDoor
open Go.RowKit Go.Lib
namespace GL
open GP GM GH GI GA NF NC RQ RT

theorem ru_new (W : World) : (W.alloc (.cells #[] 35)).ownsRow W.heap.size 35 2 (.slice (some ⟨W.heap.size, 0, none⟩) 0 0) 0 [] :=
  World.ownsRow_lit W #[] 0 (Nat.le_refl _) (Nat.zero_le _) rfl
theorem rules_one (W : World) (r : Rl) (K : Nat) (hK : W.heap.size = K) : RulesAt (W.alloc (.cells #[.bool r.1, .string r.2] 35)) (some ⟨K, 0, none⟩) [r] := by
  subst hK
  intro _
  refine ⟨W.heap.size, 0, rfl, by simp, fun k x hx => ?_⟩
  match k, hx with
  | 0, hx =>
    simp at hx
    subst hx
    exact ⟨World.cell?_alloc_at _ _ _ _ rfl, World.cell?_alloc_at _ _ _ _ rfl⟩
theorem rules_drew {W : World} {ao : Option Addr} {rs : List Rl} (h : RulesAt W ao rs) : RulesAt W.drew ao rs := h
theorem rules_old (W : World) (o : Obj) {ao : Option Addr} (rs : List Rl) (h : RulesAt W ao rs) : RulesAt (W.alloc o) ao rs := h.below ((Below.refl _ _).alloc (Nat.le_refl _) _)
theorem rules_grown {W W' : World} {K : Nat} {rs : List Rl} (h : RulesAt W (some ⟨K, 0, none⟩) rs) {row : Option Nat} (hg : W.grownBy W' row) (hr : row ≠ some K) : RulesAt W' (some ⟨K, 0, none⟩) rs := by
  intro hl
  obtain ⟨g, o, e, hgl, hc⟩ := h hl
  simp only [Option.some.injEq, Addr.mk.injEq, and_true] at e
  obtain ⟨rfl, rfl⟩ := e
  refine ⟨K, 0, rfl, Nat.lt_of_lt_of_le hgl hg.size, fun k x hx => ?_⟩
  obtain ⟨h1, h2⟩ := hc k x hx
  have hb := hg.block K hgl (Ne.symm hr)
  rw [← h1, ← h2]
  exact ⟨World.cell?_of_block hb, World.cell?_of_block hb⟩
set_option maxRecDepth 100000 in
set_option maxHeartbeats 6400000 in
theorem keeps_law (ao : Option Addr) (c : Nat) (rs : List Rl) (q : ByteArray) (more : Rl) (w : World) (he : Env w) (hr : RulesAt w ao rs) (h0 : ao = none → rs = [] ∧ c = 0) (hrl : rs.length ≤ 1048576) (hsz : ∀ r ∈ rs, r.2.size ≤ maxLen) (hq : q.size ≤ 1048576) (hms : more.2.size ≤ maxLen) :
    Calls Tryd.prog 8 #[.slice ao rs.length c, .string q, .agg #[.bool more.1, .string more.2]] w (Ans true w) := by
  have hqm : q.size ≤ maxLen := Nat.le_trans hq (of_decide_eq_true rfl)
  have hw1 : Below w.heap.size w (w.alloc (.cells #[.bool more.1, .string more.2] 35)) := (Below.refl _ _).alloc (Nat.le_refl _) _
  have q0 := World.cell?_alloc_at (w := w) #[.bool more.1, .string more.2] 35 w.heap.size 0 rfl
  have q1 := World.cell?_alloc_at (w := w) #[.bool more.1, .string more.2] 35 w.heap.size 1 rfl
  have cA := awake_any _ (he.below hw1)
  have He := Lib.hid he
  have HR := Lib.hid hr
  have H0 := Lib.hid h0
  have Hsz := Lib.hid hsz
  have Hw1 := Lib.hid hw1
  have Q0 := Lib.hid q0
  have Q1 := Lib.hid q1
  clear he hr h0 hsz hw1 q0 q1
  go_enter Tryd.func8, Tryd.ntmps8
  go_wp2_with fail
  refine cA.mono ?_
  rintro e w2 ⟨rfl, hb2⟩
  have Hb2 : Hid (Below (w.heap.size + 1) (w.alloc (.cells #[.bool more.1, .string more.2] 35)) w2) := Lib.hid (hb2.mono (by simp))
  have HW2 : Hid (Below w.heap.size w w2) := Lib.hid (Hw1.out.trans (hb2.mono (by simp)))
  have hl2 : w.heap.size < w2.heap.size := by have := hb2.size; simp at this; omega
  have s0 : w2.cell? ⟨w.heap.size, 0, none⟩ = some (.bool more.1) := (hb2.cell (p := ⟨w.heap.size, 0, none⟩) (by simp)).trans Q0.out
  have s1 : w2.cell? ⟨w.heap.size, 1, none⟩ = some (.string more.2) := (hb2.cell (p := ⟨w.heap.size, 1, none⟩) (by simp)).trans Q1.out
  clear hb2 cA
  by_cases h8 : 8 < rs.length
  · have h8z : (8 : Int) < rs.length := by omega
    go_wp2_with fail
    go_ret
    exact ⟨rfl, HW2.out⟩
  · have h8z : ¬ (8 : Int) < rs.length := by omega
    have h8d : decide ((8 : Int) < rs.length) = false := decide_eq_false h8z
    have cP := rpath_any q w2 hq
    cases hpath : NP.pathL q.data.toList
    · rw [hpath] at cP
      clear hpath
      go_wp2_with fail
      refine cP.mono ?_
      rintro e w3 ⟨rfl, hb3⟩
      have HW3 := Lib.hid (HW2.out.trans (hb3.mono HW2.out.size))
      clear hb3 cP
      go_wp2_with fail
      go_ret
      exact ⟨rfl, HW3.out⟩
    · rw [hpath] at cP
      have Hpath := Lib.hid hpath
      clear hpath
      go_wp2_with fail
      refine cP.mono ?_
      rintro e w3 ⟨rfl, hb3⟩
      have HW3 := Lib.hid (HW2.out.trans (hb3.mono HW2.out.size))
      have hl3 : w.heap.size < w3.heap.size := Nat.lt_of_lt_of_le hl2 hb3.size
      have r0 := (hb3.cell (p := ⟨w.heap.size, 0, none⟩) hl2).trans s0
      have r1 := (hb3.cell (p := ⟨w.heap.size, 1, none⟩) hl2).trans s1
      clear hb3 cP s0 s1
      by_cases h40 : 40 < more.2.size
      · have h40z : (40 : Int) < more.2.size := by omega
        go_wp2_with fail
        go_ret
        exact ⟨rfl, HW3.out⟩
      · have h40z : ¬ (40 : Int) < more.2.size := by omega
        have h40d : decide ((40 : Int) < more.2.size) = false := decide_eq_false h40z
        have HR3 := Lib.hid (HR.out.below HW3.out)
        go_wp2_with fail
        go_loop [29] (fun s29 => ∃ k : Nat, k ≤ rs.length ∧ s29 = .int .i64 k) (fun s29 => rs.length - (Go.RowKit.intOf s29).toNat)
        case atStart => exact ⟨0, Nat.zero_le _, rfl⟩
        case round =>
          obtain ⟨k, hk, rfl⟩ := hrel
          by_cases hlt : k < rs.length
          · obtain ⟨r, hr⟩ : ∃ r, rs[k]? = some r := ⟨rs[k], List.getElem?_eq_getElem hlt⟩
            obtain ⟨g, o, rfl, hg, hc⟩ := HR3.out (by omega)
            obtain ⟨d1, d2⟩ := hc k r hr
            have hz : (k : Int) < rs.length := by omega
            clear hr hc
            by_cases hr40 : 40 < r.2.size
            · have hr40z : (40 : Int) < r.2.size := by omega
              go_wp2_with fail
              go_ret
              exact ⟨rfl, HW3.out⟩
            · have hr40z : ¬ (40 : Int) < r.2.size := by omega
              go_wp2_with fail
              go_round
              case rel => exact ⟨k + 1, by omega, by go_num⟩
              case measure => simp [Go.RowKit.intOf]; omega
          · have hz : ¬ (k : Int) < rs.length := by omega
            have cI := ignored_any ao c rs q w3 (He.out.below HW3.out) HR3.out (by omega) Hsz.out hqm
            go_wp2_with fail
            refine cI.mono ?_
            rintro e w4 ⟨rfl, hb4⟩
            have HW4 := Lib.hid (HW3.out.trans (hb4.mono HW3.out.size))
            have hl4 : w.heap.size < w4.heap.size := Nat.lt_of_lt_of_le hl3 hb4.size
            have u0 := (hb4.cell (p := ⟨w.heap.size, 0, none⟩) hl3).trans r0
            have u1 := (hb4.cell (p := ⟨w.heap.size, 1, none⟩) hl3).trans r1
            clear hb4 cI r0 r1
            have H2 := Lib.hid (ign_twice rs q.data.toList)
            generalize hI : ignL rs q.data.toList = X at H2
            have HI := Lib.hid hI
            clear hI
            have HR4 := Lib.hid (HR.out.below HW4.out)
            have hb4a : Below w4.heap.size w4 (w4.alloc (.cells #[] 35)) := (Below.refl _ _).alloc (Nat.le_refl _) _
            have Hb4a := Lib.hid hb4a
            clear hb4a
            go_wp2_with (first | (at_builtin; refine wpList_app _ rfl (.tmp 43) (.tmp 44) rfl w4.heap.size _ [] rfl (ru_new w4) ao c rs rfl (HR4.out.below Hb4a.out) H0.out (by simp; omega) (by simp) ?_; intro v5 w5 hown5 hg5; simp only [List.nil_append] at hown5; have hb5 := Lib.hid (Hb4a.out.grown hg5 (by simp) (fun k hk => by cases hk; exact Nat.le_refl _)); obtain ⟨ao5, c5, hv5, hR5⟩ := ru_owned hown5; subst hv5; have hown5h := Lib.hid hown5; clear hown5 hg5 hR5) | (at_builtin; refine wpList_app _ rfl (.tmp 45) (.tmp 46) rfl w4.heap.size _ rs rfl hown5h.out ao c rs rfl (HR4.out.below hb5.out) H0.out (by omega) hb5.out.size ?_; intro v6 w6 hown6 hg6; have hb6 := Lib.hid (hb5.out.grown hg6 hb5.out.size (fun k hk => (hown5h.out.lt k hk).1)); obtain ⟨ao6, c6, hv6, hR6⟩ := ru_owned hown6; subst hv6; have HR6 := Lib.hid hR6; clear hown6 hg6 hR6))
            have hsz6 : ∀ r ∈ rs ++ rs, r.2.size ≤ maxLen := fun r hr => by
              rcases List.mem_append.1 hr with h | h <;> exact Hsz.out r h
            have HW6 := Lib.hid (HW4.out.trans (hb6.out.mono HW4.out.size))
            have cI2 := ignored_any ao6 c6 (rs ++ rs) q w6 (He.out.below HW6.out) HR6.out (by simp; omega) hsz6 hqm
            rw [List.length_append, H2.out] at cI2
            refine cI2.mono ?_
            rintro e w7 ⟨rfl, hb7⟩
            have HW7 := Lib.hid (HW6.out.trans (hb7.mono HW6.out.size))
            have hb47 : Below w4.heap.size w4 w7 := hb6.out.trans (hb7.mono hb6.out.size)
            have t0 := (hb47.cell (p := ⟨w.heap.size, 0, none⟩) hl4).trans u0
            have t1 := (hb47.cell (p := ⟨w.heap.size, 1, none⟩) hl4).trans u1
            have hl7 : w.heap.size < w7.heap.size := Nat.lt_of_lt_of_le hl4 hb47.size
            have hxx : (X == X) = true := by simp
            clear cI2 hb7 hb47 u0 u1 hsz6
            have HQ : Hid (Over q.data.toList q.data.toList ∧ Silent more q.data.toList (NP.cutOn q.data.toList).length) := Lib.hid ⟨over_self Hpath.out, silent_start _ _⟩
            go_wp2_with fail
            go_loopw [10] (fun s10 wr => ∃ p : ByteArray, s10 = .string p ∧ p.size ≤ 1048576 ∧ ((p.data.toList = [] ∧ Silent more q.data.toList 0) ∨ (Over q.data.toList p.data.toList ∧ Silent more q.data.toList (NP.cutOn p.data.toList).length)) ∧ Below w7.heap.size w7 wr) (fun s10 _ => GR.strLen s10)
            case atStart => exact ⟨q, rfl, hq, .inr HQ.out, Below.refl _ _⟩
            case round =>
              obtain ⟨p, rfl, hps, hor, hb⟩ := hrel
              have Hb := Lib.hid hb
              have v0 := (hb.cell (p := ⟨w.heap.size, 0, none⟩) hl7).trans t0
              have v1 := (hb.cell (p := ⟨w.heap.size, 1, none⟩) hl7).trans t1
              have HWr := Lib.hid (HW7.out.trans (hb.mono HW7.out.size))
              have hlr : w.heap.size < wr.heap.size := Nat.lt_of_lt_of_le hl7 hb.size
              clear hb
              by_cases hpe : p.data.toList = []
              · have hte := (GR.empty_of hpe).1
                have HS : Hid (Silent more q.data.toList 0) := Lib.hid (by
                  rcases hor with h | ⟨⟨h, _⟩, _⟩
                  · exact h.2
                  · rw [hpe] at h; cases h)
                have HF := Lib.hid (ign_silent (rs := rs) Hpath.out HS.out)
                clear hor hpe
                have cI3 : ∀ W ao9 c9, Below w.heap.size w W → RulesAt W ao9 (rs ++ [more]) → Calls Tryd.prog 19 #[.slice ao9 (rs.length + 1) c9, .string q] W fun e w' => e = .returned (.bool X) ∧ Below W.heap.size W w' := fun W ao9 c9 hW hR9 => by
                  have h := ignored_any ao9 c9 (rs ++ [more]) q W (He.out.below hW) hR9 (by simp; omega) (fun r hr => by
                    rcases List.mem_append.1 hr with h | h
                    · exact Hsz.out r h
                    · simp at h; rw [h]; exact hms) hqm
                  rw [HF.out, HI.out, List.length_append] at h
                  exact h
                have HRr := Lib.hid (HR.out.below HWr.out)
                go_wp2_with fail
                go_region_held3 (fun w' => w'.cell? ⟨w.heap.size, 0, none⟩ = some (.bool more.1) ∧ w'.cell? ⟨w.heap.size, 1, none⟩ = some (.string more.2)) (first | exact ⟨z0, z1⟩ | exact ⟨y0, y1⟩ | exact ⟨r0, r1⟩ | exact ⟨v0, v1⟩ | go_keep) (first | (refine step_app _ rfl (.tmp 62) (.tmp 63) rfl wr.heap.size _ [] rfl (ru_new _) ao c rs rfl (HRr.out.below (by repeat' (first | exact Below.refl _ _ | refine Below.drew ?_ | refine Below.alloc ?_ (by first | omega | (simp; omega) | simp) _))) H0.out (by first | omega | (simp; omega) | simp) (by first | omega | (simp; omega) | simp) ?_; intro v8 w8 hown8 hg8; simp only [List.nil_append] at hown8; have hb8 : Below wr.heap.size wr w8 := Below.grown (by repeat' (first | exact Below.refl _ _ | refine Below.drew ?_ | refine Below.alloc ?_ (by first | omega | (simp; omega) | simp) _)) hg8 (by first | omega | (simp; omega) | simp) (fun k hk => by cases hk <;> simp <;> omega);  obtain ⟨ao8, c8, hv8, _⟩ := ru_owned hown8; subst hv8; have r0 := (hb8.cell (p := ⟨w.heap.size, 0, none⟩) hlr).trans v0; have r1 := (hb8.cell (p := ⟨w.heap.size, 1, none⟩) hlr).trans v1; have Hb8 := Lib.hid hb8; have Hown8 := Lib.hid hown8; have hs8 := hb8.size; clear hb8 hown8 hg8) | (refine step_app _ rfl (.tmp 62) (.tmp 63) rfl wr.heap.size _ [] rfl ((ru_new _).alloc _) ao c rs rfl (HRr.out.below (by repeat' (first | exact Below.refl _ _ | refine Below.drew ?_ | refine Below.alloc ?_ (by first | omega | (simp; omega) | simp) _))) H0.out (by first | omega | (simp; omega) | simp) (by first | omega | (simp; omega) | simp) ?_; intro v8 w8 hown8 hg8; simp only [List.nil_append] at hown8; have hb8 : Below wr.heap.size wr w8 := Below.grown (by repeat' (first | exact Below.refl _ _ | refine Below.drew ?_ | refine Below.alloc ?_ (by first | omega | (simp; omega) | simp) _)) hg8 (by first | omega | (simp; omega) | simp) (fun k hk => by cases hk <;> simp <;> omega); have hm8 : RulesAt w8 (some ⟨wr.heap.size + 1, 0, none⟩) [more] := rules_grown (rules_drew (rules_one (wr.alloc (.cells #[] 35)) more (wr.heap.size + 1) (by simp))) hg8 (show (Value.slice (some ⟨wr.heap.size, 0, none⟩) 0 0).ownBlock ≠ some (wr.heap.size + 1) from by simp [Value.ownBlock]); obtain ⟨ao8, c8, hv8, _⟩ := ru_owned hown8; subst hv8; have r0 := (hb8.cell (p := ⟨w.heap.size, 0, none⟩) hlr).trans v0; have r1 := (hb8.cell (p := ⟨w.heap.size, 1, none⟩) hlr).trans v1; have Hb8 := Lib.hid hb8; have Hown8 := Lib.hid hown8; have hs8 := hb8.size; clear hb8 hown8 hg8) | (refine step_app _ rfl (.tmp 62) (.tmp 63) rfl wr.heap.size _ [] rfl (by have h := owns_base (ru_new (wr.alloc (.cells #[.bool more.1, .string more.2] 35))) wr.heap.size (by simp); have e : (wr.alloc (.cells #[.bool more.1, .string more.2] 35)).heap.size = wr.heap.size + 1 := (by simp); rw [e] at h; exact h) ao c rs rfl (HRr.out.below (by repeat' (first | exact Below.refl _ _ | refine Below.drew ?_ | refine Below.alloc ?_ (by first | omega | (simp; omega) | simp) _))) H0.out (by first | omega | (simp; omega) | simp) (by first | omega | (simp; omega) | simp) ?_; intro v8 w8 hown8 hg8; simp only [List.nil_append] at hown8; have hb8 : Below wr.heap.size wr w8 := Below.grown (by repeat' (first | exact Below.refl _ _ | refine Below.drew ?_ | refine Below.alloc ?_ (by first | omega | (simp; omega) | simp) _)) hg8 (by first | omega | (simp; omega) | simp) (fun k hk => by cases hk <;> simp <;> omega); have hm8 : RulesAt w8 (some ⟨wr.heap.size, 0, none⟩) [more] := rules_grown (rules_drew (rules_old _ (.cells #[] 35) _ (rules_one wr more wr.heap.size rfl))) hg8 (show (Value.slice (some ⟨wr.heap.size + 1, 0, none⟩) 0 0).ownBlock ≠ some wr.heap.size from by simp [Value.ownBlock]); obtain ⟨ao8, c8, hv8, _⟩ := ru_owned hown8; subst hv8; have r0 := (hb8.cell (p := ⟨w.heap.size, 0, none⟩) hlr).trans v0; have r1 := (hb8.cell (p := ⟨w.heap.size, 1, none⟩) hlr).trans v1; have Hb8 := Lib.hid hb8; have Hown8 := Lib.hid hown8; have hs8 := hb8.size; clear hb8 hown8 hg8) | (refine step_app _ rfl (.tmp 64) (.tmp 66) rfl wr.heap.size _ rs rfl (Hown8.out.alloc _) (some ⟨w8.heap.size, 0, none⟩) 1 [more] rfl (rules_one _ _ _ (by simp)) (fun e => by cases e) (by first | omega | (simp; omega) | simp) (by first | omega | (simp; omega) | simp) ?_; intro v9 w9 hown9 hg9; have hb9 : Below wr.heap.size wr w9 := Below.grown (Hb8.out.alloc hs8 _) hg9 (by first | omega | (simp; omega) | simp) (fun k hk => (Hown8.out.lt k hk).1); obtain ⟨ao9, c9, hv9, hR9⟩ := ru_owned hown9; subst hv9; have y0 := (hb9.cell (p := ⟨w.heap.size, 0, none⟩) hlr).trans v0; have y1 := (hb9.cell (p := ⟨w.heap.size, 1, none⟩) hlr).trans v1; have Hb9 := Lib.hid hb9; have HR9 := Lib.hid hR9; clear hb9 hown9 hg9 hR9) | (refine step_app _ rfl (.tmp 64) (.tmp 66) rfl wr.heap.size _ rs rfl Hown8.out (some ⟨wr.heap.size + 1, 0, none⟩) 1 [more] rfl hm8 (fun e => by cases e) (by first | omega | (simp; omega) | simp) (by first | omega | (simp; omega) | simp) ?_; intro v9 w9 hown9 hg9; have hb9 : Below wr.heap.size wr w9 := Below.grown Hb8.out hg9 (by first | omega | (simp; omega) | simp) (fun k hk => (Hown8.out.lt k hk).1); obtain ⟨ao9, c9, hv9, hR9⟩ := ru_owned hown9; subst hv9; have y0 := (hb9.cell (p := ⟨w.heap.size, 0, none⟩) hlr).trans v0; have y1 := (hb9.cell (p := ⟨w.heap.size, 1, none⟩) hlr).trans v1; have Hb9 := Lib.hid hb9; have HR9 := Lib.hid hR9; clear hb9 hown9 hg9 hR9) | (refine step_app _ rfl (.tmp 64) (.tmp 66) rfl wr.heap.size _ rs rfl Hown8.out (some ⟨wr.heap.size, 0, none⟩) 1 [more] rfl hm8 (fun e => by cases e) (by first | omega | (simp; omega) | simp) (by first | omega | (simp; omega) | simp) ?_; intro v9 w9 hown9 hg9; have hb9 : Below wr.heap.size wr w9 := Below.grown Hb8.out hg9 (by first | omega | (simp; omega) | simp) (fun k hk => (Hown8.out.lt k hk).1); obtain ⟨ao9, c9, hv9, hR9⟩ := ru_owned hown9; subst hv9; have y0 := (hb9.cell (p := ⟨w.heap.size, 0, none⟩) hlr).trans v0; have y1 := (hb9.cell (p := ⟨w.heap.size, 1, none⟩) hlr).trans v1; have Hb9 := Lib.hid hb9; have HR9 := Lib.hid hR9; clear hb9 hown9 hg9 hR9) | (go_at_call 19; refine (cI3 _ ao9 c9 (HWr.out.trans (Hb9.out.mono HWr.out.size)) HR9.out).mono ?_; rintro e w10 ⟨rfl, hb10⟩; have hb10' := Hb9.out.trans (hb10.mono Hb9.out.size); have z0 := (hb10'.cell (p := ⟨w.heap.size, 0, none⟩) hlr).trans v0; have z1 := (hb10'.cell (p := ⟨w.heap.size, 1, none⟩) hlr).trans v1; have Hb10 := Lib.hid hb10'; clear hb10 hb10'))
                all_goals go_wp2_with fail
                all_goals go_ret
                all_goals exact ⟨rfl, HWr.out.trans (Hb10.out.mono HWr.out.size)⟩
              · obtain ⟨hov, hsi⟩ := hor.resolve_left (fun h => hpe h.1)
                have hte : p.toList.isEmpty = false := by rw [Lib.toList_data]; simpa using hpe
                have cM := match_any more.2 p wr (He.out.below HWr.out) hms (Nat.le_trans hps (of_decide_eq_true rfl))
                have Hov := Lib.hid hov
                have Hsi := Lib.hid hsi
                have Hpe := Lib.hid hpe
                clear hor hpe hov hsi
                go_wp2_with fail
                refine cM.mono ?_
                rintro e w8 ⟨rfl, hb8⟩
                have HW8 := Lib.hid (HWr.out.trans (hb8.mono HWr.out.size))
                have Hb8 := Lib.hid (Hb.out.trans (hb8.mono Hb.out.size))
                clear hb8 cM
                cases hm : matL more.2.data.toList p.data.toList
                · have Hm := Lib.hid hm
                  clear hm
                  have cU := rparent_any p w8 hps
                  go_wp2_with fail
                  refine cU.mono ?_
                  rintro e w9 ⟨u, rfl, hu, hb9⟩
                  have Hb9 := Lib.hid (Hb8.out.trans (hb9.mono Hb8.out.size))
                  have hup : u.data.toList = NP.upL p.data.toList := by rw [hu]; unfold NP.parentL; rw [if_pos Hov.out.1]
                  have hnext : u.size ≤ 1048576 ∧ ((u.data.toList = [] ∧ Silent more q.data.toList 0) ∨ (Over q.data.toList u.data.toList ∧ Silent more q.data.toList (NP.cutOn u.data.toList).length)) ∧ u.size < p.size := by
                    rw [Lib.size_eq u, Lib.size_eq p, hup]
                    have hp0 : 0 < p.data.toList.length := List.length_pos_iff.2 Hpe.out
                    have hp4 := path_short Hov.out.1
                    by_cases hue : NP.upL p.data.toList = []
                    · have h1 := up_none Hov.out.1 hue
                      exact ⟨by rw [hue]; simp, .inl ⟨hue, silent_step Hov.out Hsi.out Hm.out h1⟩, by rw [hue]; exact hp0⟩
                    · obtain ⟨_, h4, h5, _⟩ := up_path Hov.out.1 hue
                      refine ⟨by omega, .inr ⟨over_up Hov.out hue, silent_step Hov.out Hsi.out Hm.out (by rw [h4]; simp)⟩, h5⟩
                  have Hnext := Lib.hid hnext
                  clear hb9 cU hu hup hnext
                  go_wp2_with fail
                  go_roundw
                  case rel => exact ⟨u, rfl, Hnext.out.1, Hnext.out.2.1, Hb9.out⟩
                  case measure => exact Hnext.out.2.2
                · clear hm
                  go_wp2_with fail
                  go_ret
                  exact ⟨rfl, HW8.out⟩
end GL
end Go.Proofs.YtdnncacplnfllaaDoor
