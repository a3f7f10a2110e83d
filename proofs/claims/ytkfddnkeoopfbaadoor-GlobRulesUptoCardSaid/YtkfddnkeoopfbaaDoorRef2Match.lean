/- The document's answer: Match; from what part and parts answer. -/
import Derived.Test.YtkfddnkeoopfbaaDoorRef2Ign
import Derived.Test.YtkfddnkeoopfbaaDoorRef2Runes
import Derived.Test.YtkfddnkeoopfbaaDoorRef2Parts
import Derived.Test.YtkfddnkeoopfbaaDoorRefUp
import Derived.Test.YtkfddnkeoopfbaaDoorGlobLitE
namespace Go.Proofs.YtkfddnkeoopfbaaDoor
open Go.RowKit Go.Lib
namespace RG
open GP GM GH NF RP RQ
theorem cut_no : ∀ (n : Nat) (l : List UInt8), l.length ≤ n → ∀ t ∈ NP.cutOn l, 47 ∉ t
  | 0, l, h, t, ht => by
    have : l = [] := List.eq_nil_of_length_eq_zero (by omega)
    subst this
    rw [NP.cutOn_none (by simp)] at ht
    simp only [List.mem_singleton] at ht
    subst ht
    simp
  | n + 1, l, h, t, ht => by
    rcases NP.parts l with hno | ⟨u, v, rfl, hno⟩
    · rw [NP.cutOn_none hno] at ht
      simp only [List.mem_singleton] at ht
      subst ht
      exact hno
    · rw [NP.cutOn_snoc hno] at ht
      rcases List.mem_append.1 ht with ht | ht
      · exact cut_no n u (by rw [List.length_append, List.length_cons] at h; omega) t ht
      · simp only [List.mem_singleton] at ht
        subst ht
        exact hno
theorem cut_no47 {l t : List UInt8} (h : t ∈ NP.cutOn l) : 47 ∉ t := cut_no _ l (Nat.le_refl _) t h
theorem sp_none : ∀ (n : Nat) (l : List UInt8) (a : Nat), l.length ≤ n → spR l a = none → Lib.validD l = true
  | 0, l, a, h, _ => by
    have : l = [] := List.eq_nil_of_length_eq_zero (by omega)
    subst this
    rfl
  | n + 1, l, a, h, e => by
    by_cases hne : l = []
    · subst hne; rfl
    · have hl : 0 < l.length := List.length_pos_iff.2 hne
      have hw := Lib.decodeL_width l
      cases hb : badB l
      · rw [sp_good hne hb] at e
        rw [Lib.validD_step l hne, if_neg (not_bad hb)]
        exact sp_none n _ _ (by rw [List.length_drop]; omega) e
      · rw [sp_bad hne hb] at e
        cases e
theorem pat_ok {l : List UInt8} {ps : List Pt} (h : patL l = .ok ps) : l ≠ [] ∧ l.length ≤ 400 ∧ Lib.validD l = true ∧ Reads (NP.cutOn l) ps := by
  unfold patL at h
  by_cases h0 : l = [] ∨ 400 < l.length
  · rw [if_pos h0] at h; cases h
  · rw [if_neg h0] at h
    cases hs : spR l 0 with
    | some k => rw [hs] at h; cases h
    | none =>
      rw [hs] at h
      simp only [] at h
      cases hp : psR (NP.cutOn l) 0 [] with
      | error k => rw [hp] at h; cases h
      | ok r =>
        rw [hp] at h
        simp only [Except.ok.injEq] at h
        obtain ⟨ps2, h1, h2⟩ := reads_of _ _ _ _ hp
        rw [List.nil_append] at h1
        rw [← h, h1]
        exact ⟨fun e => h0 (.inl e), by omega, sp_none _ l 0 (Nat.le_refl _) hs, h2⟩
theorem reads_len {ts : List (List UInt8)} {ps : List Pt} (h : Reads ts ps) : ts.length = ps.length := by
  induction h with
  | nil => rfl
  | cons _ _ ih => simp [ih]
theorem valid_cut : ∀ (n : Nat) (u t : List UInt8), u.length ≤ n → Lib.validD (u ++ 47 :: t) = true → Lib.validD u = true ∧ Lib.validD t = true
  | 0, u, t, h, hv => by
    have : u = [] := List.eq_nil_of_length_eq_zero (by omega)
    subst this
    rw [List.nil_append, Lib.validD_cons _ _ (by decide)] at hv
    exact ⟨rfl, hv⟩
  | n + 1, u, t, h, hv => by
    by_cases hne : u = []
    · subst hne
      rw [List.nil_append, Lib.validD_cons _ _ (by decide)] at hv
      exact ⟨rfl, hv⟩
    · obtain ⟨x, r, rfl⟩ := List.exists_cons_of_ne_nil hne
      have hne2 : (x :: r) ++ 47 :: t ≠ [] := by simp
      obtain ⟨hb, hv2⟩ := valid_good hne2 hv
      have hw := Lib.decodeL_width ((x :: r) ++ 47 :: t)
      obtain ⟨c, hc, hcl, hch⟩ := dec_cut x (r ++ 47 :: t)
      have hle : (Lib.decodeL ((x :: r) ++ 47 :: t)).2 ≤ (x :: r).length := by
        rw [List.length_cons]
        have e : Lib.decodeL ((x :: r) ++ 47 :: t) = Lib.decodeL (x :: (r ++ 47 :: t)) := rfl
        rw [e, ← hcl]
        by_cases hlt : r.length < c.length
        · exfalso
          have h1 : (r ++ 47 :: t)[r.length]? = some 47 := by rw [List.getElem?_append_right (Nat.le_refl _)]; simp
          rw [hc, List.getElem?_append_left hlt] at h1
          have := hch 47 (List.mem_of_getElem? h1)
          revert this
          decide
        · omega
      have hd := LitN.decode_pre ((x :: r) ++ 47 :: t) ((x :: r).drop (Lib.decodeL ((x :: r) ++ 47 :: t)).2) hne2 (not_bad hb)
      rw [List.take_append_of_le_length hle, List.take_append_drop] at hd
      rw [List.drop_append_of_le_length hle] at hv2
      obtain ⟨i1, i2⟩ := valid_cut n _ t (by rw [List.length_drop, List.length_cons]; rw [List.length_cons] at h; omega) hv2
      refine ⟨?_, i2⟩
      rw [Lib.validD_step _ (by simp), hd, if_neg (not_bad hb)]
      exact i1
theorem parts_valid : ∀ (n : Nat) (l : List UInt8), l.length ≤ n → Lib.validD l = true → ∀ t ∈ NP.cutOn l, Lib.validD t = true ∧ t.length ≤ l.length
  | n, l, h, hv => by
    obtain ⟨t, z, h1, h2, h3⟩ := cut_first l
    rcases h3 with ⟨h3, h4⟩ | ⟨r, h3, h4⟩
    · subst h3
      rw [List.append_nil] at h1
      rw [h4]
      intro y hy
      simp only [List.mem_singleton] at hy
      subst hy
      rw [← h1]
      exact ⟨hv, Nat.le_refl _⟩
    · rw [h3] at h1
      rw [h1] at hv h
      rw [List.length_append, List.length_cons] at h
      obtain ⟨i1, i2⟩ := valid_cut t.length t r (Nat.le_refl _) hv
      rw [h4]
      intro y hy
      have hl : l.length = t.length + (r.length + 1) := by rw [h1, List.length_append, List.length_cons]
      rcases List.mem_cons.1 hy with rfl | hy
      · exact ⟨i1, by omega⟩
      · cases n with
        | zero => omega
        | succ n =>
          obtain ⟨j1, j2⟩ := parts_valid n r (by omega) i2 y hy
          exact ⟨j1, by omega⟩
set_option maxRecDepth 100000 in
set_option maxHeartbeats 1600000 in
theorem rmatch_any : GI.MatchSaid := by
  intro p q w hp hq
  have cC := rcheck_any p w (by unfold maxLen at hp; omega)
  unfold PairPost at cC
  rw [chk_eq] at cC
  unfold chkL at cC
  unfold matL
  cases hpat : patL p.data.toList with
  | error f =>
    rw [hpat] at cC
    simp only [] at cC ⊢
    clear hpat
    have e20 : (((20 : Nat) : Int) == 0) = false := by decide
    go_enter Tryd.func7, Tryd.ntmps7
    go_wp2_with fail
    refine cC.mono ?_
    rintro e w1 ⟨rfl, rfl⟩
    clear cC
    go_wp2_with fail
    go_ret
    exact ⟨rfl, Below.refl _ _⟩
  | ok ps =>
    rw [hpat] at cC
    simp only [] at cC ⊢
    obtain ⟨k1, k2, k3, k4⟩ := pat_ok hpat
    have cP := rpath_any q w hq
    have e0 : (((0 : Nat) : Int) == 0) = true := by decide
    cases hpath : NP.pathL q.data.toList
    · rw [hpath] at cP
      have hnn : namesL q.data.toList = [] := by unfold namesL; rw [hpath]; rfl
      rw [hnn]
      clear hpath hnn hpat k1 k2 k3 k4
      go_enter Tryd.func7, Tryd.ntmps7
      go_wp2_with fail
      refine cC.mono ?_
      rintro e w1 ⟨rfl, rfl⟩
      clear cC
      go_wp2_with fail
      refine cP.mono ?_
      rintro e w2 ⟨rfl, hb⟩
      have Hb := Lib.hid hb
      clear hb cP
      go_wp2_with fail
      go_ret
      exact ⟨rfl, Hb.out⟩
    · rw [hpath] at cP
      have hqs : q.size ≤ 400 := by
        have h := hpath
        unfold NP.pathL at h
        simp only [Bool.and_eq_true, decide_eq_true_eq] at h
        rw [Lib.size_eq]
        exact h.1.1
      rw [names_yes hpath, decide_eq_true (NP.cutOn_ne q.data.toList), Bool.true_and]
      have Hpath := Lib.hid hpath
      have K2 : p.size ≤ 400 := by rw [Lib.size_eq]; exact k2
      have HRd := Lib.hid k4
      have HV := Lib.hid k3
      clear hpath hpat k1 k2 k3 k4
      generalize hBv : matchL ps (NP.cutOn q.data.toList) = B
      have HBv := Lib.hid hBv
      clear hBv
      have cT := fun W => parts_any p W (by omega)
      have cN := fun W => parts_any q W hq
      go_enter Tryd.func7, Tryd.ntmps7
      go_wp2_with fail
      refine cC.mono ?_
      rintro e w1 ⟨rfl, rfl⟩
      clear cC
      go_wp2_with fail
      refine cP.mono ?_
      rintro e w2 ⟨rfl, hb2⟩
      have Hb2 := Lib.hid hb2
      have cT2 := cT w2
      clear hb2 cP cT
      go_wp2_with fail
      refine cT2.mono ?_
      rintro e w3 ⟨bt, ct, ts, rfl, htc, hts, htz, htl, htb, hb3⟩
      have Hb3 := Lib.hid (Hb2.out.trans (hb3.mono Hb2.out.size))
      have cN2 := cN w3
      clear hb3 cT2 cN
      go_wp2_with fail
      refine cN2.mono ?_
      rintro e w4 ⟨bn, cn, xs, rfl, hxc, hxs, hxz, hxl, hxb, hb4⟩
      have Hb4 := Lib.hid (Hb3.out.trans (hb4.mono Hb3.out.size))
      have htl4 : Lies bt ts w4 := ⟨fun j x h => by rw [hb4.cell (p := ⟨bt, 0 + j, none⟩) htl.block]; exact htl.cells j x h, Nat.lt_of_lt_of_le htl.block hb4.size⟩
      have HTL := Lib.hid htl4
      have HXL := Lib.hid hxl
      clear hb4 cN2 htl htl4
      have HR2 : Hid (Reads (ts.map (·.data.toList)) ps) := Lib.hid (by rw [hts]; exact HRd.out)
      have hlen : ts.length = ps.length := by have := reads_len HR2.out; rw [List.length_map] at this; exact this
      have HXV : Hid (∀ x ∈ xs, Lib.validD x.data.toList = true ∧ x.size ≤ 400) := Lib.hid (fun x hx => ⟨(LitN.parts_ok Hpath.out _ (by rw [← hxs]; exact List.mem_map_of_mem hx)).2, by have := hxz x hx; omega⟩)
      have HTV : Hid (∀ t ∈ ts, Lib.validD t.data.toList = true ∧ t.size ≤ 400) := Lib.hid (fun t ht => ⟨(parts_valid _ p.data.toList (Nat.le_refl _) HV.out _ (by rw [← hts]; exact List.mem_map_of_mem ht)).1, by have := htz t ht; omega⟩)
      have hxn : xs.length = (NP.cutOn q.data.toList).length := by rw [← hxs, List.length_map]
      have hct : q.data.toList.count 47 ≤ q.data.toList.length := List.count_le_length
      have hcl := NP.cutOn_length q.data.toList
      have hx400 : xs.length ≤ 401 := by rw [Lib.size_eq] at hqs; omega
      have hBv := HBv.out
      unfold matchL at hBv
      clear HBv
      by_cases h1 : ts.length = 1
      · have hp1 : ps.length = 1 := by omega
        rw [if_pos hp1] at hBv
        obtain ⟨p0, rfl⟩ := List.length_eq_one_iff.1 hp1
        have hno47 : 47 ∉ p.data.toList := by
          intro hm
          have := List.count_pos_iff.2 hm
          have h2 := NP.cutOn_length p.data.toList
          rw [← hts, List.length_map] at h2
          omega
        have hcp : NP.cutOn p.data.toList = [p.data.toList] := NP.cutOn_none hno47
        have hpt : ptL p.data.toList = .ok p0 := by
          have h := HRd.out
          rw [hcp] at h
          cases h with
          | cons h r => exact h
        obtain ⟨n, hn⟩ : ∃ n, xs.length = n + 1 := ⟨xs.length - 1, by omega⟩
        obtain ⟨v, hv, hcell, hmem⟩ := RT.lies_last hxs hn hxl
        have hlo : lastOnly (NP.cutOn q.data.toList) = [NP.lastL q.data.toList] := by
          unfold lastOnly
          have hg := RT.last_part q.data.toList
          obtain ⟨i, hi⟩ : ∃ i, NP.cutOn q.data.toList = i ++ [NP.lastL q.data.toList] := by
            rw [List.getLast?_eq_some_iff] at hg
            exact hg
          rw [hi]
          simp
        rw [hlo] at hBv
        have hone : ((ts.length : Int) == 1) = true := beq_iff_eq.2 (by omega)
        by_cases h22 : p.data.toList = [42, 42]
        · have hb22 : (p.toList == [42, 42]) = true := by rw [Lib.toList_data, h22]; rfl
          have hst : p0 = .stars := by
            rw [h22] at hpt
            have h2 : ptL [42, 42] = .ok .stars := rfl
            rw [h2] at hpt
            cases hpt
            rfl
          subst hst
          have hBt : true = B := hBv
          subst hBt
          clear hBv
          clear hcell hv hlo hpt hcp h22
          go_wp2_with fail
          go_ret
          exact ⟨rfl, Hb4.out⟩
        · have hb22 : (p.toList == [42, 42]) = false := by rw [Lib.toList_data]; simpa using h22
          cases p0 with
          | stars => exact absurd (pt_stars hpt) h22
          | one els =>
            have hres : mat [.one els] [NP.lastL q.data.toList] = fitsL els v.data.toList := by
              show (fitsL els (NP.lastL q.data.toList) && true) = _
              rw [Bool.and_true, hv]
            rw [hres] at hBv
            subst hBv
            have hvz := HXV.out v hmem
            have cR := runes_any v w4 (by omega)
            have hnz : (n : Int) ≤ 401 := by omega
            have Hpt := Lib.hid hpt
            rw [hn]
            clear hv hlo hpt hcp h22 hmem hres hxs hts hxz htz hxn hcl hct hn hxl
            go_wp2_with fail
            refine cR.mono ?_
            rintro e w5 ⟨ao, c, rs, rfl, hr1, hr2, hr3, hr4, hr5, hr6, hb5⟩
            have Hb5 := Lib.hid (Hb4.out.trans (hb5.mono Hb4.out.size))
            have hre : RO.EncOf rs (runes v.data.toList) := by
              unfold RO.EncOf
              rw [hr4, rn_valid _ _ (Nat.le_refl _) hvz.1]
            have hrl := RO.runes_len v.data.toList
            rw [← Lib.size_eq] at hrl
            have cPt : Calls Tryd.prog 18 #[.string p, .slice ao rs.length c] w5 (fun e w' => e = .returned (.bool (fitsL els v.data.toList)) ∧ Below w5.heap.size w5 w') :=
              RO.part_any (RO.pt_els Hpt.out) HV.out hno47 p ao c rs _ w5 rfl K2 hre (RO.runes_vr _ _ (Nat.le_refl _) hvz.1) (by rw [hre.len]; omega) hr1 hr3 hr2 hr6
            clear hre hrl
            clear hb5 cR hr2 hr4 hr5 hr6
            go_wp2_with fail
            refine cPt.mono ?_
            rintro e w6 ⟨rfl, hb6⟩
            have Hb6 := Lib.hid (Hb5.out.trans (hb6.mono Hb5.out.size))
            clear hb6 cPt
            go_wp2_with fail
            go_ret
            exact ⟨rfl, Hb6.out⟩
      · have hone : ((ts.length : Int) == 1) = false := beq_eq_false_iff_ne.2 (by omega)
        rw [if_neg (by omega), ← hxs] at hBv
        subst hBv
        have cPs : Calls Tryd.prog 20 #[.slice (some ⟨bt, 0, none⟩) ts.length ct, .slice (some ⟨bn, 0, none⟩) xs.length cn] w4 (fun e w' => e = .returned (.bool (mat ps (xs.map (·.data.toList)))) ∧ Below w4.heap.size w4 w') :=
          RO.parts_any HR2.out (some ⟨bt, 0, none⟩) (some ⟨bn, 0, none⟩) ct cn ts xs w4 rfl ⟨htc, (fun h => by cases h), fun _ => ⟨bt, 0, rfl, HTL.out.block, HTL.out.cells⟩⟩ ⟨hxc, (fun h => by cases h), fun _ => ⟨bn, 0, rfl, HXL.out.block, HXL.out.cells⟩⟩ (by have := NP.cutOn_length p.data.toList; have h2 := congrArg List.length hts; rw [List.length_map] at h2; have h3 : p.data.toList.count 47 ≤ p.data.toList.length := List.count_le_length; rw [← Lib.size_eq] at h3; omega) (by omega)
            (fun t ht => ⟨(HTV.out t ht).1, (HTV.out t ht).2, cut_no47 (by rw [← hts]; exact List.mem_map_of_mem ht)⟩) HXV.out
        clear hxs hts hxz htz hxn hcl hct hxl HRd HV HTV HXV HR2 HTL HXL hlen
        generalize ts.length = tn at *
        generalize xs.length = xn at *
        go_wp2_with fail
        with_reducible refine cPs.mono ?_
        rintro e w5 ⟨rfl, hb5⟩
        have Hb5 := Lib.hid (Hb4.out.trans (hb5.mono Hb4.out.size))
        clear hb5 cPs
        go_wp2_with fail
        go_ret
        exact ⟨rfl, Hb5.out⟩
end RG
end Go.Proofs.YtkfddnkeoopfbaaDoor
