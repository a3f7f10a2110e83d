/- The document's answer: last, Ignored; from what Match answers. -/
import Derived.Test.YtkfddnkeoopfbaaDoorGlobIgnP
import Derived.Test.YtkfddnkeoopfbaaDoorGlobRul
import Derived.Test.YtkfddnkeoopfbaaDoorRefUp
namespace Go.Proofs.YtkfddnkeoopfbaaDoor
open Go.RowKit Go.Lib
namespace GI
open GP GM GH NF NC RQ RT
/-- What is still to be proved of the reference's Match. -/
def MatchSaid : Prop := ∀ (p q : ByteArray) (W : World), p.size ≤ maxLen → q.size ≤ 1048576 → Calls Tryd.prog 7 #[.string p, .string q] W (fun e w' => e = .returned (.bool (matL p.data.toList q.data.toList)) ∧ Below W.heap.size W w')
def lastG (rs : List Rl) (q : List UInt8) (b : Bool) : Bool := rs.foldl (fun b r => if matL r.2.data.toList q = true then r.1 else b) b
theorem lastG_snoc {rs : List Rl} {k : Nat} {r : Rl} (h : rs[k]? = some r) (q : List UInt8) (b : Bool) : lastG (rs.take (k + 1)) q b = if matL r.2.data.toList q = true then r.1 else lastG (rs.take k) q b := by
  unfold lastG
  rw [List.take_add_one, h, List.foldl_append]
  rfl
theorem last_word : ∀ (rs : List Rl) (q : List UInt8) (b : Bool), NP.pathL q = true → lastG rs q b = lwFrom b (rdL rs) (NP.cutOn q)
  | [], _, _, _ => rfl
  | r :: rs, q, b, hq => by
    have ih := fun b => last_word rs q b hq
    have e : rdL (r :: rs) = rdL [r] ++ rdL rs := rdL_app [r] rs
    rw [e, rdL_one, lwFrom_app]
    show lastG rs q (if matL r.2.data.toList q = true then r.1 else b) = _
    rw [ih]
    congr 1
    unfold matL
    rw [names_yes hq]
    cases hp : patL r.2.data.toList with
    | error f => rfl
    | ok ps =>
      simp only [decide_eq_true (NP.cutOn_ne q), Bool.true_and]
      rfl
set_option maxRecDepth 100000 in
set_option maxHeartbeats 1600000 in
theorem rlast_any (hM : MatchSaid) (ao : Option Addr) (c : Nat) (rs : List Rl) (q : ByteArray) (w : World) (hr : RulesAt w ao rs) (hn : rs.length ≤ 1048576) (hsz : ∀ r ∈ rs, r.2.size ≤ maxLen) (hq : q.size ≤ 1048576) :
    Calls Tryd.prog 25 #[.slice ao rs.length c, .string q] w (fun e w' => e = .returned (.bool (lastG rs q.data.toList false)) ∧ Below w.heap.size w w') := by
  have HM := Lib.hid hM
  have HR := Lib.hid hr
  have Hsz := Lib.hid hsz
  clear hM hr hsz
  go_enter Tryd.func25, Tryd.ntmps25
  go_wp2_with fail
  go_loopw [5, 6] (fun s5 s6 wr => ∃ k : Nat, k ≤ rs.length ∧ s6 = .int .i64 k ∧ s5 = .bool (lastG (rs.take k) q.data.toList false) ∧ Below w.heap.size w wr) (fun _ s6 _ => rs.length - (Go.RowKit.intOf s6).toNat)
  case atStart => exact ⟨0, Nat.zero_le _, rfl, rfl, Below.refl _ _⟩
  case round =>
    obtain ⟨k, hk, rfl, rfl, hb⟩ := hrel
    have Hb := Lib.hid hb
    by_cases hlt : k < rs.length
    · obtain ⟨r, hr⟩ : ∃ r, rs[k]? = some r := ⟨rs[k], List.getElem?_eq_getElem hlt⟩
      obtain ⟨g, o, rfl, hg, hc⟩ := HR.out (by omega)
      obtain ⟨d1, d2⟩ := hc k r hr
      have hz2 : (k : Int) < rs.length := by omega
      have hc2 : wr.cell? ⟨g, o + k * 2 + 1, none⟩ = some (.string r.2) := by rw [hb.cell (p := ⟨g, o + k * 2 + 1, none⟩) hg]; exact d2
      have hc1 : wr.cell? ⟨g, o + k * 2, none⟩ = some (.bool r.1) := by rw [hb.cell (p := ⟨g, o + k * 2, none⟩) hg]; exact d1
      have hgw : g < wr.heap.size := Nat.lt_of_lt_of_le hg hb.size
      have cM := HM.out r.2 q wr (Hsz.out r (List.mem_of_getElem? hr)) hq
      have HS := Lib.hid (lastG_snoc hr q.data.toList false)
      clear hr d1 d2 hc hb
      generalize lastG (rs.take k) q.data.toList false = B at HS
      cases hm : matL r.2.data.toList q.data.toList
      · rw [hm] at cM HS
        clear hm
        go_wp2_with fail
        refine cM.mono ?_
        rintro e w2 ⟨rfl, hb2⟩
        have Hb2 := Lib.hid (Hb.out.trans (hb2.mono Hb.out.size))
        clear hb2 cM
        go_wp2_with fail
        go_roundw
        case rel => exact ⟨k + 1, by omega, by go_num, by rw [HS.out]; rfl, Hb2.out⟩
        case measure => simp [Go.RowKit.intOf]; omega
      · rw [hm] at cM HS
        clear hm
        go_wp2_with fail
        refine cM.mono ?_
        rintro e w2 ⟨rfl, hb2⟩
        have Hb2 := Lib.hid (Hb.out.trans (hb2.mono Hb.out.size))
        have hc3 := (hb2.cell (p := ⟨g, o + k * 2, none⟩) hgw).trans hc1
        clear hb2 cM hc1 hc2
        go_wp2_with fail
        go_roundw
        case rel => exact ⟨k + 1, by omega, by go_num, by rw [HS.out]; rfl, Hb2.out⟩
        case measure => simp [Go.RowKit.intOf]; omega
    · have hz2 : ¬ (k : Int) < rs.length := by omega
      rw [List.take_of_length_le (by omega)]
      clear hb
      go_wp2_with fail
      go_ret
      exact ⟨rfl, Hb.out⟩
theorem ignN_snoc (ws : List Wd) (ns : List (List UInt8)) (x : List UInt8) : ignN ws (ns ++ [x]) = (ignN ws ns || lwL ws (ns ++ [x])) := by
  cases h : ignN ws ns
  · rw [ign_word h]; rfl
  · rw [ignN_pre h]; rfl
def upN (p : List UInt8) : List (List UInt8) := if p = [] then [] else NP.cutOn p
theorem ign_up {ws : List Wd} {p : List UInt8} (hp : NP.pathL p = true) : ignN ws (upN p) = (ignN ws (upN (NP.upL p)) || lwL ws (NP.cutOn p)) := by
  have hne : p ≠ [] := by
    rintro rfl
    revert hp
    decide
  have h1 : upN p = NP.cutOn p := by unfold upN; rw [if_neg hne]
  rw [h1]
  by_cases hu : NP.upL p = []
  · have hl := up_none hp hu
    obtain ⟨x, hx⟩ := List.length_eq_one_iff.1 hl
    have h2 : upN (NP.upL p) = [] := by unfold upN; rw [if_pos hu]
    rw [h2, hx]
    exact ignN_snoc ws [] x
  · obtain ⟨_, h4, _⟩ := up_path hp hu
    have h2 : upN (NP.upL p) = NP.cutOn (NP.upL p) := by unfold upN; rw [if_neg hu]
    rw [h2, h4]
    exact ignN_snoc ws _ _
set_option maxRecDepth 100000 in
set_option maxHeartbeats 1600000 in
theorem rignored_any (hM : MatchSaid) (ao : Option Addr) (c : Nat) (rs : List Rl) (q : ByteArray) (w : World) (hr : RulesAt w ao rs) (hn : rs.length ≤ 1048576) (hsz : ∀ r ∈ rs, r.2.size ≤ maxLen) (hq : q.size ≤ 1048576) :
    Calls Tryd.prog 11 #[.slice ao rs.length c, .string q] w (fun e w' => e = .returned (.bool (ignL rs q.data.toList)) ∧ Below w.heap.size w w') := by
  have HM := Lib.hid hM
  have HR := Lib.hid hr
  have Hsz := Lib.hid hsz
  have cP := rpath_any q w hq
  clear hM hr hsz
  cases hpath : NP.pathL q.data.toList
  · rw [hpath] at cP
    have HX : Hid (ignL rs q.data.toList = false) := Lib.hid (by
      cases h : ignL rs q.data.toList
      · rfl
      · have := ign_path h
        rw [hpath] at this
        cases this)
    clear hpath
    go_enter Tryd.func11, Tryd.ntmps11
    go_wp2_with fail
    refine cP.mono ?_
    rintro e w1 ⟨rfl, hb⟩
    have Hb := Lib.hid hb
    clear hb cP
    go_wp2_with fail
    go_ret
    exact ⟨by rw [HX.out]; rfl, Hb.out⟩
  · rw [hpath] at cP
    have Hpath := Lib.hid hpath
    have hx : ignN (rdL rs) (upN q.data.toList) = ignL rs q.data.toList := by
      unfold ignL upN
      rw [names_yes hpath, if_neg]
      intro e
      rw [e] at hpath
      revert hpath
      decide
    generalize ignL rs q.data.toList = R at hx
    have HX := Lib.hid hx
    clear hpath hx
    go_enter Tryd.func11, Tryd.ntmps11
    go_wp2_with fail
    refine cP.mono ?_
    rintro e w1 ⟨rfl, hb1⟩
    have Hb1 := Lib.hid hb1
    clear hb1 cP
    go_wp2_with fail
    go_loopw [5] (fun s5 wr => ∃ p : ByteArray, s5 = .string p ∧ p.size ≤ 1048576 ∧ (p.data.toList = [] ∨ NP.pathL p.data.toList = true) ∧ ignN (rdL rs) (upN p.data.toList) = R ∧ Below w.heap.size w wr) (fun s5 _ => GR.strLen s5)
    case atStart => exact ⟨q, rfl, hq, .inr Hpath.out, HX.out, Hb1.out⟩
    case round =>
      obtain ⟨p, rfl, hps, hor, hR, hb⟩ := hrel
      have Hb := Lib.hid hb
      clear hb
      by_cases hpe : p.data.toList = []
      · have hte := (GR.empty_of hpe).1
        rw [hpe] at hR
        have hR2 : false = R := hR
        subst hR2
        clear hpe hor hR
        go_wp2_with fail
        go_ret
        exact ⟨rfl, Hb.out⟩
      · have hte : p.toList.isEmpty = false := by rw [Lib.toList_data]; simpa using hpe
        have hpp := hor.resolve_left hpe
        have cL := rlast_any HM.out ao c rs p wr (HR.out.below Hb.out) hn Hsz.out hps
        rw [ign_up hpp] at hR
        have hlw : lastG rs p.data.toList false = lwL (rdL rs) (NP.cutOn p.data.toList) := last_word rs _ false hpp
        rw [← hlw] at hR
        cases hl : lastG rs p.data.toList false
        · rw [hl] at hR cL
          rw [Bool.or_false] at hR
          have Hpp := Lib.hid hpp
          have Hpe := Lib.hid hpe
          have HN := Lib.hid hR
          clear hl hlw hR hpp hpe hor
          go_wp2_with fail
          refine cL.mono ?_
          rintro e w2 ⟨rfl, hb2⟩
          have Hb2 := Lib.hid (Hb.out.trans (hb2.mono Hb.out.size))
          have cU := rparent_any p w2 hps
          clear hb2 cL
          go_wp2_with fail
          refine cU.mono ?_
          rintro e w3 ⟨u, rfl, hu, hb3⟩
          have Hb3 := Lib.hid (Hb2.out.trans (hb3.mono Hb2.out.size))
          have hup : u.data.toList = NP.upL p.data.toList := by rw [hu]; unfold NP.parentL; rw [if_pos Hpp.out]
          have hnext : (u.data.toList = [] ∨ NP.pathL u.data.toList = true) ∧ u.size < p.size := by
            rw [Lib.size_eq u, Lib.size_eq p, hup]
            have hp0 : 0 < p.data.toList.length := List.length_pos_iff.2 Hpe.out
            by_cases hue : NP.upL p.data.toList = []
            · exact ⟨.inl hue, by rw [hue]; exact hp0⟩
            · obtain ⟨h3, _, h5, _⟩ := up_path Hpp.out hue
              exact ⟨.inr h3, h5⟩
          have Hnext := Lib.hid hnext
          have HN2 : Hid (ignN (rdL rs) (upN u.data.toList) = R) := Lib.hid (by rw [hup]; exact HN.out)
          have hus : u.size ≤ 1048576 := by have := hnext.2; omega
          clear hb3 cU hu hup hnext
          go_wp2_with fail
          go_roundw
          case rel => exact ⟨u, rfl, hus, Hnext.out.1, HN2.out, Hb3.out⟩
          case measure => exact Hnext.out.2
        · rw [hl] at hR cL
          rw [Bool.or_true] at hR
          subst hR
          clear hl hlw hpp hpe hor
          go_wp2_with fail
          refine cL.mono ?_
          rintro e w2 ⟨rfl, hb2⟩
          have Hb2 := Lib.hid (Hb.out.trans (hb2.mono Hb.out.size))
          clear hb2 cL
          go_wp2_with fail
          go_ret
          exact ⟨rfl, Hb2.out⟩
end GI
end Go.Proofs.YtkfddnkeoopfbaaDoor
