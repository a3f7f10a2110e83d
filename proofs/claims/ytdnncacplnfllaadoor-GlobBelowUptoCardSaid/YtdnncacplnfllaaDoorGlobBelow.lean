/- The walk of GlobBelow: it answers true, for every list of rules, every path and every next, of bulk at most 1048576. -/
import Derived.Test.YtdnncacplnfllaaDoorGlobKeeps
namespace Go.Proofs.YtdnncacplnfllaaDoor
open Go.RowKit Go.Lib
namespace GL
open GP GM GH GI GA NF NC RQ RT

def Up (rs : List Rl) (q p : List UInt8) : Prop := (p = [] ∧ (NP.upL q = [] ∨ ignL rs (NP.upL q) = false)) ∨ (Over q p ∧ (p = NP.upL q ∨ ignL rs (NP.upL q) = false))
theorem up_start {rs : List Rl} {q : List UInt8} (hq : NP.pathL q = true) : Up rs q (NP.upL q) := by
  by_cases h : NP.upL q = []
  · exact .inl ⟨h, .inl h⟩
  · exact .inr ⟨over_up (over_self hq) h, .inl rfl⟩
theorem up_end {rs : List Rl} {q p : List UInt8} (h : Up rs q p) (hp : p = []) : NP.upL q = [] ∨ ignL rs (NP.upL q) = false := by
  rcases h with h | ⟨⟨h, _⟩, _⟩
  · exact h.2
  · rw [hp] at h; cases h
theorem up_over {rs : List Rl} {q p : List UInt8} (h : Up rs q p) (hp : p ≠ []) : Over q p := by
  rcases h with h | h
  · exact absurd h.1 hp
  · exact h.1
theorem up_next {rs : List Rl} {q p : List UInt8} (h : Up rs q p) (hp : p ≠ []) (hi : ignL rs p = false) : Up rs q (NP.upL p) ∧ (NP.upL p).length < p.length := by
  have ho := up_over h hp
  have hf : ignL rs (NP.upL q) = false := by
    rcases h with h | ⟨_, h | h⟩
    · exact absurd h.1 hp
    · rw [← h]; exact hi
    · exact h
  by_cases hu : NP.upL p = []
  · exact ⟨.inl ⟨hu, .inr hf⟩, by rw [hu]; exact List.length_pos_iff.2 hp⟩
  · exact ⟨.inr ⟨over_up ho hu, .inr hf⟩, (up_path ho.1 hu).2.2.1⟩

set_option maxHeartbeats 6400000 in
theorem below_law (ao : Option Addr) (c : Nat) (rs : List Rl) (q name : ByteArray) (last : Rl) (w : World) (he : Env w) (hr : RulesAt w ao rs) (h0 : ao = none → rs = [] ∧ c = 0) (hrl : rs.length ≤ 1048576) (hsz : ∀ r ∈ rs, r.2.size ≤ maxLen) (hq : q.size + 1 + name.size ≤ 1048576) (hms : last.2.size ≤ maxLen) :
    Calls Tryd.prog 7 #[.slice ao rs.length c, .string q, .agg #[.string name, .bool last.1, .string last.2]] w (Ans true w) := by
  have hqm : q.size ≤ maxLen := Nat.le_trans (by omega : q.size ≤ 1048576) (of_decide_eq_true rfl)
  have hw1 : Below w.heap.size w (w.alloc (.cells #[.string name, .bool last.1, .string last.2] 38)) := (Below.refl _ _).alloc (Nat.le_refl _) _
  have q0 := World.cell?_alloc_at (w := w) #[.string name, .bool last.1, .string last.2] 38 w.heap.size 0 rfl
  have q1 := World.cell?_alloc_at (w := w) #[.string name, .bool last.1, .string last.2] 38 w.heap.size 1 rfl
  have q2 := World.cell?_alloc_at (w := w) #[.string name, .bool last.1, .string last.2] 38 w.heap.size 2 rfl
  have He := Lib.hid he
  have HR := Lib.hid hr
  have H0 := Lib.hid h0
  have Hsz := Lib.hid hsz
  have Hw1 := Lib.hid hw1
  clear he hr h0 hsz hw1
  go_enter Tryd.func7, Tryd.ntmps7
  go_wp2_with fail
  go_region
  go_wp2_with fail
  generalize hW1 : ((w.alloc (Obj.cells #[Value.string name, Value.bool last.fst, Value.string last.snd] 38)).alloc (Obj.cells #[Value.bool last.fst, Value.string last.snd] 35)).drew = W1
  have hb1 : Below w.heap.size w W1 := by
    rw [← hW1]
    exact (Hw1.out.alloc (by simp) _).drew
  have hl1 : w.heap.size + 1 < W1.heap.size := by rw [← hW1]; simp
  have p0 : W1.cell? ⟨w.heap.size + 1, 0, none⟩ = some (.bool last.1) := by
    rw [← hW1]
    exact World.cell?_alloc_at (w := w.alloc (.cells #[.string name, .bool last.1, .string last.2] 38)) #[.bool last.1, .string last.2] 35 (w.heap.size + 1) 0 (by simp)
  have p1 : W1.cell? ⟨w.heap.size + 1, 1, none⟩ = some (.string last.2) := by
    rw [← hW1]
    exact World.cell?_alloc_at (w := w.alloc (.cells #[.string name, .bool last.1, .string last.2] 38)) #[.bool last.1, .string last.2] 35 (w.heap.size + 1) 1 (by simp)
  have HW1 := Lib.hid hb1
  clear hb1 hW1 Hw1 q0 q1 q2
  have cA := awake_any W1 (He.out.below HW1.out)
  refine cA.mono ?_
  rintro e w2 ⟨rfl, hb2⟩
  have HW2 : Hid (Below w.heap.size w w2) := Lib.hid (HW1.out.trans (hb2.mono HW1.out.size))
  have hl2 : w.heap.size + 1 < w2.heap.size := Nat.lt_of_lt_of_le hl1 hb2.size
  have s0 : w2.cell? ⟨w.heap.size + 1, 0, none⟩ = some (.bool last.1) := (hb2.cell (p := ⟨w.heap.size + 1, 0, none⟩) hl1).trans p0
  have s1 : w2.cell? ⟨w.heap.size + 1, 1, none⟩ = some (.string last.2) := (hb2.cell (p := ⟨w.heap.size + 1, 1, none⟩) hl1).trans p1
  clear hb2 cA p0 p1
  by_cases h8 : 8 < rs.length
  · have h8z : (8 : Int) < rs.length := by omega
    go_wp2_with fail
    go_ret
    exact ⟨rfl, HW2.out⟩
  · have h8z : ¬ (8 : Int) < rs.length := by omega
    have h8d : decide ((8 : Int) < rs.length) = false := decide_eq_false h8z
    have cP := rpath_any q w2 (by omega)
    cases hpath : NP.pathL q.data.toList
    · rw [hpath] at cP
      clear hpath
      go_wp2_with fail
      refine cP.mono ?_
      rintro e w3 ⟨rfl, hb3⟩
      have HW3 := Lib.hid (HW2.out.trans (hb3.mono HW2.out.size))
      clear hb3 cP
      go_wp2_with fail
      go_ret
      exact ⟨rfl, HW3.out⟩
    · rw [hpath] at cP
      have Hpath := Lib.hid hpath
      clear hpath
      go_wp2_with fail
      refine cP.mono ?_
      rintro e w3 ⟨rfl, hb3⟩
      have HW3 := Lib.hid (HW2.out.trans (hb3.mono HW2.out.size))
      have hl3 : w.heap.size + 1 < w3.heap.size := Nat.lt_of_lt_of_le hl2 hb3.size
      have r0 := (hb3.cell (p := ⟨w.heap.size + 1, 0, none⟩) hl2).trans s0
      have r1 := (hb3.cell (p := ⟨w.heap.size + 1, 1, none⟩) hl2).trans s1
      clear hb3 cP s0 s1
      by_cases h40 : 40 < last.2.size
      · have h40z : (40 : Int) < last.2.size := by omega
        go_wp2_with fail
        go_ret
        exact ⟨rfl, HW3.out⟩
      · have h40z : ¬ (40 : Int) < last.2.size := by omega
        have h40d : decide ((40 : Int) < last.2.size) = false := decide_eq_false h40z
        have HR3 := Lib.hid (HR.out.below HW3.out)
        go_wp2_with fail
        go_loop [34] (fun s34 => ∃ k : Nat, k ≤ rs.length ∧ s34 = .int .i64 k) (fun s34 => rs.length - (Go.RowKit.intOf s34).toNat)
        case atStart => exact ⟨0, Nat.zero_le _, rfl⟩
        case round =>
          obtain ⟨k, hk, rfl⟩ := hrel
          by_cases hlt : k < rs.length
          · obtain ⟨r, hr⟩ : ∃ r, rs[k]? = some r := ⟨rs[k], List.getElem?_eq_getElem hlt⟩
            obtain ⟨g, o, rfl, hg, hc⟩ := HR3.out (by omega)
            obtain ⟨d1, d2⟩ := hc k r hr
            have hz : (k : Int) < rs.length := by omega
            clear hr hc
            by_cases hr40 : 40 < r.2.size
            · have hr40z : (40 : Int) < r.2.size := by omega
              go_wp2_with fail
              go_ret
              exact ⟨rfl, HW3.out⟩
            · have hr40z : ¬ (40 : Int) < r.2.size := by omega
              go_wp2_with fail
              go_round
              case rel => exact ⟨k + 1, by omega, by go_num⟩
              case measure => simp [Go.RowKit.intOf]; omega
          · have hz : ¬ (k : Int) < rs.length := by omega
            have cI := ignored_any ao c rs q w3 (He.out.below HW3.out) HR3.out (by omega) Hsz.out hqm
            go_wp2_with fail
            refine cI.mono ?_
            rintro e wr ⟨rfl, hb4⟩
            have HWr := Lib.hid (HW3.out.trans (hb4.mono HW3.out.size))
            have hlr : w.heap.size + 1 < wr.heap.size := Nat.lt_of_lt_of_le hl3 hb4.size
            have v0 := (hb4.cell (p := ⟨w.heap.size + 1, 0, none⟩) hl3).trans r0
            have v1 := (hb4.cell (p := ⟨w.heap.size + 1, 1, none⟩) hl3).trans r1
            clear hb4 cI r0 r1
            have cP2 := fun W => rpath_any (q ++ ⟨#[47]⟩ ++ name) W (by simp only [ByteArray.size_append]; show q.size + 1 + name.size ≤ 1048576; exact hq)
            have hd2 : (q ++ ⟨#[47]⟩ ++ name).data.toList = q.data.toList ++ 47 :: name.data.toList := by simp [ByteArray.data_append]
            have hqn : (q ++ ⟨#[47]⟩ ++ name).size ≤ maxLen := Nat.le_trans (by simp only [ByteArray.size_append]; show q.size + 1 + name.size ≤ 1048576; exact hq) (of_decide_eq_true rfl)
            have Hqn := Lib.hid hqn
            clear hqn
            rw [hd2] at cP2
            cases hig : ignL rs q.data.toList
            case' false =>
              clear cP2 hd2 hig
              go_wp2_with fail
            case' true => cases hpn : NP.pathL (q.data.toList ++ 47 :: name.data.toList)
            case' true.false =>
              rw [hpn] at cP2
              clear hpn hd2 hig
              go_wp2_with fail
              have cP3 := cP2 wr
              refine cP3.mono ?_
              clear cP3
              rintro e wr ⟨rfl, hb5⟩
              have HWr := Lib.hid (HWr.out.trans (hb5.mono HWr.out.size))
              have v0 := (hb5.cell (p := ⟨w.heap.size + 1, 0, none⟩) hlr).trans v0
              have v1 := (hb5.cell (p := ⟨w.heap.size + 1, 1, none⟩) hlr).trans v1
              have hlr : w.heap.size + 1 < wr.heap.size := Nat.lt_of_lt_of_le hlr hb5.size
              clear hb5 cP2
              go_wp2_with fail
            case' true.true =>
              rw [hpn] at cP2
              have hbw := ign_below hig hpn
              clear hpn hig
              go_wp2_with fail
              refine (cP2 wr).mono ?_
              rintro e w5 ⟨rfl, hb5⟩
              have HW5 := Lib.hid (HWr.out.trans (hb5.mono HWr.out.size))
              have hl5 : w.heap.size + 1 < w5.heap.size := Nat.lt_of_lt_of_le hlr hb5.size
              have x0 := (hb5.cell (p := ⟨w.heap.size + 1, 0, none⟩) hlr).trans v0
              have x1 := (hb5.cell (p := ⟨w.heap.size + 1, 1, none⟩) hlr).trans v1
              clear hb5 cP2
              have cI := ignored_any ao c rs (q ++ ⟨#[47]⟩ ++ name) w5 (He.out.below HW5.out) (HR.out.below HW5.out) (by omega) Hsz.out Hqn.out
              rw [hd2, hbw] at cI
              clear hd2 hbw
              go_wp2_with fail
              refine cI.mono ?_
              rintro e wr ⟨rfl, hb6⟩
              have HWr := Lib.hid (HW5.out.trans (hb6.mono HW5.out.size))
              have hlr : w.heap.size + 1 < wr.heap.size := Nat.lt_of_lt_of_le hl5 hb6.size
              have v0 := (hb6.cell (p := ⟨w.heap.size + 1, 0, none⟩) hl5).trans x0
              have v1 := (hb6.cell (p := ⟨w.heap.size + 1, 1, none⟩) hl5).trans x1
              clear hb6 cI x0 x1
              go_wp2_with fail
            all_goals have HRr := Lib.hid (HR.out.below HWr.out)
            all_goals go_region_held3 (fun w' => w'.cell? ⟨w.heap.size + 1, 0, none⟩ = some (.bool last.1) ∧ w'.cell? ⟨w.heap.size + 1, 1, none⟩ = some (.string last.2)) (first | exact ⟨y0, y1⟩ | exact ⟨r0, r1⟩ | exact ⟨v0, v1⟩ | go_keep) (first | (refine step_app _ rfl (.tmp 64) (.tmp 65) rfl wr.heap.size _ [] rfl (ru_new _) ao c rs rfl (HRr.out.below (by repeat' (first | exact Below.refl _ _ | refine Below.drew ?_ | refine Below.alloc ?_ (by first | omega | (simp; omega) | simp) _))) H0.out (by first | omega | (simp; omega) | simp) (by first | omega | (simp; omega) | simp) ?_; intro v8 w8 hown8 hg8; simp only [List.nil_append] at hown8; have hb8 : Below wr.heap.size wr w8 := Below.grown (by repeat' (first | exact Below.refl _ _ | refine Below.drew ?_ | refine Below.alloc ?_ (by first | omega | (simp; omega) | simp) _)) hg8 (by first | omega | (simp; omega) | simp) (fun k hk => by cases hk <;> simp <;> omega);  obtain ⟨ao8, c8, hv8, _⟩ := ru_owned hown8; subst hv8; have r0 := (hb8.cell (p := ⟨w.heap.size + 1, 0, none⟩) hlr).trans v0; have r1 := (hb8.cell (p := ⟨w.heap.size + 1, 1, none⟩) hlr).trans v1; have Hb8 := Lib.hid hb8; have Hown8 := Lib.hid hown8; have hs8 := hb8.size; clear hb8 hown8 hg8) | (refine step_app _ rfl (.tmp 64) (.tmp 65) rfl wr.heap.size _ [] rfl ((ru_new _).alloc _) ao c rs rfl (HRr.out.below (by repeat' (first | exact Below.refl _ _ | refine Below.drew ?_ | refine Below.alloc ?_ (by first | omega | (simp; omega) | simp) _))) H0.out (by first | omega | (simp; omega) | simp) (by first | omega | (simp; omega) | simp) ?_; intro v8 w8 hown8 hg8; simp only [List.nil_append] at hown8; have hb8 : Below wr.heap.size wr w8 := Below.grown (by repeat' (first | exact Below.refl _ _ | refine Below.drew ?_ | refine Below.alloc ?_ (by first | omega | (simp; omega) | simp) _)) hg8 (by first | omega | (simp; omega) | simp) (fun k hk => by cases hk <;> simp <;> omega); have hm8 : RulesAt w8 (some ⟨wr.heap.size + 1, 0, none⟩) [last] := rules_grown (rules_drew (rules_one (wr.alloc (.cells #[] 35)) last (wr.heap.size + 1) (by simp))) hg8 (show (Value.slice (some ⟨wr.heap.size, 0, none⟩) 0 0).ownBlock ≠ some (wr.heap.size + 1) from by simp [Value.ownBlock]); obtain ⟨ao8, c8, hv8, _⟩ := ru_owned hown8; subst hv8; have r0 := (hb8.cell (p := ⟨w.heap.size + 1, 0, none⟩) hlr).trans v0; have r1 := (hb8.cell (p := ⟨w.heap.size + 1, 1, none⟩) hlr).trans v1; have Hb8 := Lib.hid hb8; have Hown8 := Lib.hid hown8; have hs8 := hb8.size; clear hb8 hown8 hg8) | (refine step_app _ rfl (.tmp 64) (.tmp 65) rfl wr.heap.size _ [] rfl (by have h := owns_base (ru_new (wr.alloc (.cells #[.bool last.1, .string last.2] 35))) wr.heap.size (by simp); have e : (wr.alloc (.cells #[.bool last.1, .string last.2] 35)).heap.size = wr.heap.size + 1 := (by simp); rw [e] at h; exact h) ao c rs rfl (HRr.out.below (by repeat' (first | exact Below.refl _ _ | refine Below.drew ?_ | refine Below.alloc ?_ (by first | omega | (simp; omega) | simp) _))) H0.out (by first | omega | (simp; omega) | simp) (by first | omega | (simp; omega) | simp) ?_; intro v8 w8 hown8 hg8; simp only [List.nil_append] at hown8; have hb8 : Below wr.heap.size wr w8 := Below.grown (by repeat' (first | exact Below.refl _ _ | refine Below.drew ?_ | refine Below.alloc ?_ (by first | omega | (simp; omega) | simp) _)) hg8 (by first | omega | (simp; omega) | simp) (fun k hk => by cases hk <;> simp <;> omega); have hm8 : RulesAt w8 (some ⟨wr.heap.size, 0, none⟩) [last] := rules_grown (rules_drew (rules_old _ (.cells #[] 35) _ (rules_one wr last wr.heap.size rfl))) hg8 (show (Value.slice (some ⟨wr.heap.size + 1, 0, none⟩) 0 0).ownBlock ≠ some wr.heap.size from by simp [Value.ownBlock]); obtain ⟨ao8, c8, hv8, _⟩ := ru_owned hown8; subst hv8; have r0 := (hb8.cell (p := ⟨w.heap.size + 1, 0, none⟩) hlr).trans v0; have r1 := (hb8.cell (p := ⟨w.heap.size + 1, 1, none⟩) hlr).trans v1; have Hb8 := Lib.hid hb8; have Hown8 := Lib.hid hown8; have hs8 := hb8.size; clear hb8 hown8 hg8) | (refine step_app _ rfl (.tmp 66) (.tmp 68) rfl wr.heap.size _ rs rfl (Hown8.out.alloc _) (some ⟨w8.heap.size, 0, none⟩) 1 [last] rfl (rules_one _ _ _ (by simp)) (fun e => by cases e) (by first | omega | (simp; omega) | simp) (by first | omega | (simp; omega) | simp) ?_; intro v9 w9 hown9 hg9; have hb9 : Below wr.heap.size wr w9 := Below.grown (Hb8.out.alloc hs8 _) hg9 (by first | omega | (simp; omega) | simp) (fun k hk => (Hown8.out.lt k hk).1); obtain ⟨ao9, c9, hv9, hR9⟩ := ru_owned hown9; subst hv9; have y0 := (hb9.cell (p := ⟨w.heap.size + 1, 0, none⟩) hlr).trans v0; have y1 := (hb9.cell (p := ⟨w.heap.size + 1, 1, none⟩) hlr).trans v1; have Hb9 := Lib.hid hb9; have HR9 := Lib.hid hR9; clear hb9 hown9 hg9 hR9) | (refine step_app _ rfl (.tmp 66) (.tmp 68) rfl wr.heap.size _ rs rfl Hown8.out (some ⟨wr.heap.size + 1, 0, none⟩) 1 [last] rfl hm8 (fun e => by cases e) (by first | omega | (simp; omega) | simp) (by first | omega | (simp; omega) | simp) ?_; intro v9 w9 hown9 hg9; have hb9 : Below wr.heap.size wr w9 := Below.grown Hb8.out hg9 (by first | omega | (simp; omega) | simp) (fun k hk => (Hown8.out.lt k hk).1); obtain ⟨ao9, c9, hv9, hR9⟩ := ru_owned hown9; subst hv9; have y0 := (hb9.cell (p := ⟨w.heap.size + 1, 0, none⟩) hlr).trans v0; have y1 := (hb9.cell (p := ⟨w.heap.size + 1, 1, none⟩) hlr).trans v1; have Hb9 := Lib.hid hb9; have HR9 := Lib.hid hR9; clear hb9 hown9 hg9 hR9) | (refine step_app _ rfl (.tmp 66) (.tmp 68) rfl wr.heap.size _ rs rfl Hown8.out (some ⟨wr.heap.size, 0, none⟩) 1 [last] rfl hm8 (fun e => by cases e) (by first | omega | (simp; omega) | simp) (by first | omega | (simp; omega) | simp) ?_; intro v9 w9 hown9 hg9; have hb9 : Below wr.heap.size wr w9 := Below.grown Hb8.out hg9 (by first | omega | (simp; omega) | simp) (fun k hk => (Hown8.out.lt k hk).1); obtain ⟨ao9, c9, hv9, hR9⟩ := ru_owned hown9; subst hv9; have y0 := (hb9.cell (p := ⟨w.heap.size + 1, 0, none⟩) hlr).trans v0; have y1 := (hb9.cell (p := ⟨w.heap.size + 1, 1, none⟩) hlr).trans v1; have Hb9 := Lib.hid hb9; have HR9 := Lib.hid hR9; clear hb9 hown9 hg9 hR9))
            all_goals
              have HW9 := Lib.hid (HWr.out.trans (Hb9.out.mono HWr.out.size))
              have hl9 : w.heap.size + 1 < w9.heap.size := Nat.lt_of_lt_of_le hlr Hb9.out.size
              have cU := rparent_any q w9 (by omega)
              go_wp2_with fail
              refine cU.mono ?_
              clear cU
              rintro e w10 ⟨u, rfl, hu, hb10⟩
              have hup : u.data.toList = NP.upL q.data.toList := by rw [hu]; unfold NP.parentL; rw [if_pos Hpath.out]
              have HW10 := Lib.hid (HW9.out.trans (hb10.mono HW9.out.size))
              have z0 := (hb10.cell (p := ⟨w.heap.size + 1, 0, none⟩) hl9).trans y0
              have z1 := (hb10.cell (p := ⟨w.heap.size + 1, 1, none⟩) hl9).trans y1
              have hl10 : w.heap.size + 1 < w10.heap.size := Nat.lt_of_lt_of_le hl9 hb10.size
              have HR10 := Lib.hid (HR9.out.below hb10)
              have hsz6 : ∀ r ∈ rs ++ [last], r.2.size ≤ maxLen := fun r hr => by
                rcases List.mem_append.1 hr with h | h
                · exact Hsz.out r h
                · simp at h; rw [h]; exact hms
              have Hsz6 := Lib.hid hsz6
              have HU : Hid (Up (rs ++ [last]) q.data.toList u.data.toList) := Lib.hid (by rw [hup]; exact up_start Hpath.out)
              have hus : u.size ≤ 1048576 := by rw [Lib.size_eq, hup]; by_cases h : NP.upL q.data.toList = []; (rw [h]; simp); (have h2 := (up_path Hpath.out h).2.2.1; rw [← Lib.size_eq q] at h2; omega)
              clear hsz6 hu hup hb10
              go_wp2_with fail
              go_loopw [11] (fun s11 wr => ∃ p : ByteArray, s11 = .string p ∧ p.size ≤ 1048576 ∧ Up (rs ++ [last]) q.data.toList p.data.toList ∧ Below w10.heap.size w10 wr) (fun s11 _ => GR.strLen s11)
              case atStart => exact ⟨u, rfl, hus, HU.out, Below.refl _ _⟩
              case round =>
                obtain ⟨p, rfl, hps, hor, hb⟩ := hrel
                have Hb := Lib.hid hb
                have t0 := (hb.cell (p := ⟨w.heap.size + 1, 0, none⟩) hl10).trans z0
                have t1 := (hb.cell (p := ⟨w.heap.size + 1, 1, none⟩) hl10).trans z1
                have HWl := Lib.hid (HW10.out.trans (hb.mono HW10.out.size))
                have HRl := Lib.hid (HR10.out.below hb)
                clear hb
                by_cases hpe : p.data.toList = []
                · have hte := (GR.empty_of hpe).1
                  have HX : Hid (NP.upL q.data.toList = [] ∨ ignL (rs ++ [last]) (NP.upL q.data.toList) = false) := Lib.hid (up_end hor hpe)
                  clear hor hpe
                  have k0 := cell_regrown t0
                  have k1 := cell_regrown t1
                  cases hm : matL last.2.data.toList q.data.toList
                  · have cM : ∀ d os, Calls Tryd.prog 15 #[.string last.2, .string q] (Go.Sort.grow (redrawn wr d) os) fun e w'' => e = .returned (.bool false) ∧ ∃ p : Regrown, w'' = Go.Sort.grow (redrawn wr p.d) p.os := fun d os => Calls.regrown_of (by
                      have h := match_any last.2 q (Go.Sort.grow (redrawn wr d) os) (He.out.below (HWl.out.trans ((below_regrown wr d os).mono HWl.out.size))) hms hqm
                      rw [hm] at h
                      exact h)
                    clear hm
                    go_wp2_with fail
                    with_reducible refine wp_region_quiet_below (by kernel_rfl) (by kernel_rfl) ?_
                    repeat (go_big_quiet_step (first | (go_at_call_of 15 (Value.string q); exact cM _ _)))
                    refine wpQuiet_nil ?_
                    intro _ hw'
                    obtain ⟨⟨dq, osq⟩, hw''⟩ := hw'
                    subst hw''
                    go_wp2_with fail
                    go_ret
                    exact ⟨rfl, HWl.out.trans ((below_regrown wr dq osq).mono HWl.out.size)⟩
                  · have cM : ∀ d os, Calls Tryd.prog 15 #[.string last.2, .string q] (Go.Sort.grow (redrawn wr d) os) fun e w'' => e = .returned (.bool true) ∧ ∃ p : Regrown, w'' = Go.Sort.grow (redrawn wr p.d) p.os := fun d os => Calls.regrown_of (by
                      have h := match_any last.2 q (Go.Sort.grow (redrawn wr d) os) (He.out.below (HWl.out.trans ((below_regrown wr d os).mono HWl.out.size))) hms hqm
                      rw [hm] at h
                      exact h)
                    have cI2 : ∀ d os, Calls Tryd.prog 19 #[.slice ao9 (rs.length + 1) c9, .string q] (Go.Sort.grow (redrawn wr d) os) fun e w'' => e = .returned (.bool last.1) ∧ ∃ p : Regrown, w'' = Go.Sort.grow (redrawn wr p.d) p.os := fun d os => Calls.regrown_of (by
                      have h := ignored_any ao9 c9 (rs ++ [last]) q (Go.Sort.grow (redrawn wr d) os) (He.out.below (HWl.out.trans ((below_regrown wr d os).mono HWl.out.size))) (HRl.out.below (below_regrown wr d os)) (by simp; omega) Hsz6.out hqm
                      rw [ign_last_word Hpath.out hm HX.out, List.length_append] at h
                      exact h)
                    have hself : (last.1 == last.1) = true := by simp
                    clear hm
                    go_wp2_with fail
                    with_reducible refine wp_region_quiet_below (by kernel_rfl) (by kernel_rfl) ?_
                    repeat (go_big_quiet_step (first | (go_at_call_of 15 (Value.string q); exact cM _ _) | (go_at_call_of 19 (Value.string q); exact cI2 _ _)))
                    refine wpQuiet_nil ?_
                    intro _ hw'
                    obtain ⟨⟨dq, osq⟩, hw''⟩ := hw'
                    subst hw''
                    go_wp2_with fail
                    go_ret
                    exact ⟨rfl, HWl.out.trans ((below_regrown wr dq osq).mono HWl.out.size)⟩
                · have hte : p.toList.isEmpty = false := by rw [Lib.toList_data]; simpa using hpe
                  have hov := up_over hor hpe
                  have cI := ignored_any ao9 c9 (rs ++ [last]) p wr (He.out.below HWl.out) HRl.out (by simp; omega) Hsz6.out (Nat.le_trans hps (of_decide_eq_true rfl))
                  rw [List.length_append] at cI
                  cases hi : ignL (rs ++ [last]) p.data.toList
                  · have hnx := up_next hor hpe hi
                    rw [hi] at cI
                    have HN := Lib.hid hnx
                    have Hov := Lib.hid hov
                    have Hpe := Lib.hid hpe
                    clear hi hor hnx hov hpe
                    go_wp2_with fail
                    refine cI.mono ?_
                    rintro e w11 ⟨rfl, hb11⟩
                    have Hb11 := Lib.hid (Hb.out.trans (hb11.mono Hb.out.size))
                    clear hb11 cI
                    have cU := rparent_any p w11 hps
                    go_wp2_with fail
                    refine cU.mono ?_
                    clear cU
                    rintro e w12 ⟨u2, rfl, hu2, hb12⟩
                    have Hb12 := Lib.hid (Hb11.out.trans (hb12.mono Hb11.out.size))
                    have hup2 : u2.data.toList = NP.upL p.data.toList := by rw [hu2]; unfold NP.parentL; rw [if_pos Hov.out.1]
                    have hnext : u2.size ≤ 1048576 ∧ Up (rs ++ [last]) q.data.toList u2.data.toList ∧ u2.size < p.size := by
                      have h1 := HN.out.2
                      have e1 := Lib.size_eq u2
                      have e2 := Lib.size_eq p
                      rw [hup2] at e1
                      exact ⟨by omega, by rw [hup2]; exact HN.out.1, by omega⟩
                    have Hnext := Lib.hid hnext
                    clear hb12 hu2 hup2 hnext
                    go_wp2_with fail
                    go_roundw
                    case rel => exact ⟨u2, rfl, Hnext.out.1, Hnext.out.2.1, Hb12.out⟩
                    case measure => exact Hnext.out.2.2
                  · rw [hi] at cI
                    have HO := Lib.hid (ign_over Hpath.out hov hi)
                    clear hi hor hov hpe
                    go_wp2_with fail
                    refine cI.mono ?_
                    rintro e w11 ⟨rfl, hb11⟩
                    have HW11 := Lib.hid (HWl.out.trans (hb11.mono HWl.out.size))
                    have HR11 := HRl.out.below hb11
                    clear hb11 cI
                    have cQ := ignored_any ao9 c9 (rs ++ [last]) q w11 (He.out.below HW11.out) HR11 (by simp; omega) Hsz6.out hqm
                    rw [List.length_append, HO.out] at cQ
                    clear HR11
                    go_wp2_with fail
                    refine cQ.mono ?_
                    rintro e w12 ⟨rfl, hb12⟩
                    have HW12 := Lib.hid (HW11.out.trans (hb12.mono HW11.out.size))
                    clear hb12 cQ
                    go_wp2_with fail
                    go_ret
                    exact ⟨rfl, HW12.out⟩
end GL
end Go.Proofs.YtdnncacplnfllaaDoor
