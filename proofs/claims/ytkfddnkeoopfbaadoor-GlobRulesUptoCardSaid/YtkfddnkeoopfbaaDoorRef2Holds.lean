/- The document's answer: holds. -/
import Derived.Test.YtkfddnkeoopfbaaDoorRef2OneP
import Derived.Test.YtkfddnkeoopfbaaDoorRef2Runes
import Derived.Laws.Cover1
namespace Go.Proofs.YtkfddnkeoopfbaaDoor
open Go.RowKit Go.Lib
namespace RO
open GP LitN RG

abbrev Dn := ByteArray × Bool
def TwoRows (B : Nat) (wr : World) (v1 v2 : Value) (done : List Dn) : Prop :=
  wr.ownsRow B 9 1 v1 done.length (done.map fun d => Value.string d.1) ∧ wr.ownsRow B 4 1 v2 done.length (done.map fun d => Value.bool d.2)
/-- What has been laid down is what the runes so far say. -/
def Same (done : List Dn) (D : List (Nat × Bool)) : Prop := done.map (fun d => (d.1.data.toList, d.2)) = D.map fun d => (enc d.1, d.2)
theorem Same.len {done : List Dn} {D : List (Nat × Bool)} (h : Same done D) : done.length = D.length := by
  have := congrArg List.length h
  simpa using this
theorem Same.snoc {done : List Dn} {D : List (Nat × Bool)} (h : Same done D) {x : ByteArray} {y : Nat} {b : Bool} (hx : x.data.toList = enc y) : Same (done ++ [(x, b)]) (D ++ [(y, b)]) := by
  unfold Same at h ⊢
  rw [List.map_append, List.map_append, h, List.map_singleton, List.map_singleton, hx]
theorem Same.at {done : List Dn} {D : List (Nat × Bool)} (h : Same done D) {k : Nat} {d : Nat × Bool} (hd : D[k]? = some d) : ∃ x, done[k]? = some (x, d.2) ∧ x.data.toList = enc d.1 := by
  have h1 : (done.map (fun d => (d.1.data.toList, d.2)))[k]? = (D.map fun d => (enc d.1, d.2))[k]? := by rw [h]
  rw [List.getElem?_map, List.getElem?_map, hd] at h1
  obtain ⟨⟨x, b⟩, hx, e⟩ := Option.map_eq_some_iff.1 h1
  simp only [Prod.mk.injEq] at e
  obtain ⟨e1, e2⟩ := e
  subst e2
  exact ⟨x, hx, e1⟩
theorem other_row {w : World} {B1 B2 t1 t2 n1 n2 : Nat} {v1 v2 : Value} {x1 x2 : List Value} (h1 : w.ownsRow B1 t1 1 v1 n1 x1) (h2 : w.ownsRow B2 t2 1 v2 n2 x2) (ht : t1 ≠ t2) : v2.ownBlock = none ∨ v2.ownBlock ≠ v1.ownBlock := by
  rcases h2.2 with ⟨e, _⟩ | ⟨g2, c2, cur2, e2, _, hg2, _⟩
  · rw [e]; exact .inl rfl
  · right
    intro e
    rw [e2] at e
    rcases h1.2 with ⟨e1, _⟩ | ⟨g1, c1, cur1, e1, _, hg1, _⟩
    · rw [e1] at e
      simp [Value.ownBlock] at e
    · rw [e1] at e
      simp only [Value.ownBlock, Option.some.injEq] at e
      rw [e] at hg2
      rw [hg1] at hg2
      simp only [Option.some.injEq, Obj.cells.injEq] at hg2
      exact ht hg2.2.1
theorem infoB : (Tryd.prog.info? 4).map (fun i => (i.zero, i.size, i.bytes)) = some (some (.bool false), 1, 1) := by kernel_rfl
/-- A list of runes' texts. -/
def EncOf (xs : List ByteArray) (rs : List Nat) : Prop := xs.map (·.data.toList) = rs.map enc
theorem EncOf.at {xs : List ByteArray} {rs : List Nat} (h : EncOf xs rs) {k : Nat} {y : Nat} (hy : rs[k]? = some y) : ∃ x, xs[k]? = some x ∧ x.data.toList = enc y := by
  have h1 : (xs.map (·.data.toList))[k]? = (rs.map enc)[k]? := by rw [h]
  rw [List.getElem?_map, List.getElem?_map, hy] at h1
  obtain ⟨x, hx, e⟩ := Option.map_eq_some_iff.1 h1
  exact ⟨x, hx, e⟩
theorem EncOf.len {xs : List ByteArray} {rs : List Nat} (h : EncOf xs rs) : xs.length = rs.length := by
  have := congrArg List.length h
  simpa using this
theorem text_is {x : ByteArray} {y b : Nat} (hx : x.data.toList = enc y) (hy : VR y) (hb : b < 128) : (x.toList == (⟨#[UInt8.ofNat b]⟩ : ByteArray).toList) = decide (y = b) := by
  rw [Lib.toList_data, hx, Lib.toList_data, show (⟨#[UInt8.ofNat b]⟩ : ByteArray).data.toList = enc b from (enc_low hb).symm]
  exact enc_beq hy (by unfold VR; omega)
theorem text_le {x z : ByteArray} {a b : Nat} (hx : x.data.toList = enc a) (hz : z.data.toList = enc b) (ha : VR a) (hb : VR b) : (Op.bytesLess x.toList z.toList || x.toList == z.toList) = decide (a ≤ b) := by
  rw [Lib.toList_data, Lib.toList_data, hx, hz]
  exact enc_le ha hb
theorem text_eq {x z : ByteArray} {a b : Nat} (hx : x.data.toList = enc a) (hz : z.data.toList = enc b) (ha : VR a) (hb : VR b) : (x.toList == z.toList) = decide (a = b) := by
  rw [Lib.toList_data, Lib.toList_data, hx, hz]
  exact enc_beq ha hb
theorem drop_at2 {α : Type} {l : List α} {k : Nat} {x : α} (h : l[k]? = some x) : l.drop k = x :: l.drop (k + 1) := by
  obtain ⟨hlt, rfl⟩ := List.getElem?_eq_some_iff.1 h
  exact List.drop_eq_getElem_cons hlt
theorem hl_vr : ∀ (n : Nat) (rs : List Nat), rs.length ≤ n → (∀ y ∈ rs, VR y) → ∀ d ∈ hlN rs, VR d.1
  | 0, rs, h, _, d, hd => by
    have : rs = [] := List.eq_nil_of_length_eq_zero (by omega)
    subst this
    simp [hlN] at hd
  | n + 1, [], _, _, d, hd => by simp [hlN] at hd
  | n + 1, x :: R, h, hv, d, hd => by
    rw [List.length_cons] at h
    by_cases h92 : x = 92
    · subst h92
      cases R with
      | nil => simp [hlN] at hd
      | cons y r =>
        rw [(hl_esc y r).1] at hd
        rcases List.mem_cons.1 hd with rfl | hd
        · exact hv y (by simp)
        · exact hl_vr n r (by rw [List.length_cons] at h; omega) (fun z hz => hv z (by simp [hz])) d hd
    · rw [(hl_plain h92 R).1] at hd
      rcases List.mem_cons.1 hd with rfl | hd
      · exact hv x (by simp)
      · exact hl_vr n R (by omega) (fun z hz => hv z (by simp [hz])) d hd
theorem runes_len (l : List UInt8) : (runes l).length ≤ l.length := by
  have key : ∀ (n : Nat) (l : List UInt8), (ruGo n l).length ≤ n := by
    intro n
    induction n with
    | zero => intro l; simp [ruGo]
    | succ n ih =>
      intro l
      unfold ruGo
      split
      · simp
      · rw [List.length_cons]
        have := ih (l.drop (Lib.decodeL l).2)
        omega
  exact key _ _
theorem row_view2 {B : Nat} {wr : World} {v : Value} {done : List Dn} (ho : wr.ownsRow B 9 1 v done.length (done.map fun d => Value.string d.1)) :
    ∃ (ao : Option Addr) (c : Nat), v = .slice ao done.length c ∧ done.length ≤ c ∧ (ao = none → done = [] ∧ c = 0) ∧ c ≤ maxLen ∧ (0 < done.length → ∃ g o, ao = some ⟨g, o, none⟩ ∧ g < wr.heap.size ∧ ∀ (j : Nat) d, done[j]? = some d → wr.cell? ⟨g, o + j, none⟩ = some (.string d.1)) := by
  rcases ho.2 with ⟨hv, h0⟩ | ⟨g, cap, cur, hv, hb, hg, hle, hcap, _⟩
  · have : done = [] := List.eq_nil_of_length_eq_zero h0
    subst this
    exact ⟨none, 0, hv, Nat.le_refl _, fun _ => ⟨rfl, rfl⟩, Nat.zero_le _, fun h => by simp at h⟩
  · subst hv
    refine ⟨_, cap, rfl, hle, (fun h => by cases h), hcap, fun _ => ⟨g, 0, rfl, (Array.getElem?_eq_some_iff.1 hg).1, fun j x hx => ?_⟩⟩
    have hj : j < done.length := (List.getElem?_eq_some_iff.1 hx).1
    rw [Nat.zero_add, ho.cellAt j (by omega), List.getElem?_map, hx]
    rfl
theorem row_viewB {B : Nat} {wr : World} {v : Value} {done : List Dn} (ho : wr.ownsRow B 4 1 v done.length (done.map fun d => Value.bool d.2)) :
    ∃ (ao : Option Addr) (c : Nat), v = .slice ao done.length c ∧ (0 < done.length → ∃ g o, ao = some ⟨g, o, none⟩ ∧ g < wr.heap.size ∧ ∀ (j : Nat) d, done[j]? = some d → wr.cell? ⟨g, o + j, none⟩ = some (.bool d.2)) := by
  rcases ho.2 with ⟨hv, h0⟩ | ⟨g, cap, cur, hv, hb, hg, hle, hcap, _⟩
  · have : done = [] := List.eq_nil_of_length_eq_zero h0
    subst this
    exact ⟨none, 0, hv, fun h => by simp at h⟩
  · subst hv
    refine ⟨_, cap, rfl, fun _ => ⟨g, 0, rfl, (Array.getElem?_eq_some_iff.1 hg).1, fun j x hx => ?_⟩⟩
    have hj : j < done.length := (List.getElem?_eq_some_iff.1 hx).1
    rw [Nat.zero_add, ho.cellAt j (by omega), List.getElem?_map, hx]
    rfl
set_option maxRecDepth 100000 in
set_option maxHeartbeats 6400000 in
theorem holds_any (s r : ByteArray) (yr : Nat) (w : World) (hs : s.size ≤ 400) (hv : Lib.validD s.data.toList = true) (hok : okN (runes s.data.toList) = true) (hr : r.data.toList = enc yr) (hyv : VR yr) :
    Calls Tryd.prog 43 #[.string s, .string r] w fun e w' => e = .returned (.bool (hdN (hlN (runes s.data.toList)) yr)) ∧ Below w.heap.size w w' := by
  obtain ⟨iS, hiS, hzS0, hzS1, hzS2⟩ := info_parts RP.infoS
  obtain ⟨iB, hiB, hzB0, hzB1, hzB2⟩ := info_parts infoB
  have cR := runes_any s w (by omega)
  have hrn := rn_valid _ s.data.toList (Nat.le_refl _) hv
  have HV := Lib.hid (runes_vr _ s.data.toList (Nat.le_refl _) hv)
  have hrl := runes_len s.data.toList
  rw [← Lib.size_eq] at hrl
  have HYr := Lib.hid hr
  have HYv := Lib.hid hyv
  generalize runes s.data.toList = rs at hrn HV hok hrl ⊢
  obtain ⟨R, hRR⟩ : ∃ R, hdN (hlN rs) yr = R := ⟨_, rfl⟩
  rw [hRR]
  have HRR := Lib.hid hRR
  clear hRR
  go_enter Tryd.func43, Tryd.ntmps43
  go_wp2_with fail
  refine cR.mono ?_
  rintro e w1 ⟨ao, cx, xs, rfl, _, _, _, hxe, _, hX, hW⟩
  have HXE : Hid (EncOf xs rs) := Lib.hid (by unfold EncOf; rw [hxe, hrn])
  have hxl := HXE.out.len
  have HX := Lib.hid hX
  have HW := Lib.hid hW
  have HOK := Lib.hid hok
  have hx400 : xs.length ≤ 400 := by omega
  clear hxe hX hW hrn hv hr hyv hok cR
  go_wp2
  go_loopw [5, 6, 8] (fun s5 s6 s8 wr => ∃ (k : Nat) (done : List Dn) (D : List (Nat × Bool)), k ≤ xs.length ∧ s8 = .int .i64 k ∧ TwoRows w1.heap.size wr s5 s6 done ∧ Below w1.heap.size w1 wr ∧ Same done D ∧ D ++ hlN (rs.drop k) = hlN rs ∧ okN (rs.drop k) = true ∧ done.length ≤ k) (fun _ _ s8 _ => xs.length - (Go.RowKit.intOf s8).toNat)
  case atStart => exact ⟨0, [], [], Nat.zero_le _, rfl, ⟨World.ownsRow_nil _ _ _ _, World.ownsRow_nil _ _ _ _⟩, Below.refl _ _, rfl, rfl, HOK.out, Nat.le_refl _⟩
  case round =>
    obtain ⟨k, done, D, hk, rfl, hrows, hb, hsame, heq, hok, hdl⟩ := hrel
    have HO1 := Lib.hid hrows.1
    have HO2 := Lib.hid hrows.2
    have HB := Lib.hid hb
    have hbs : w1.heap.size ≤ wr.heap.size := hb.size
    have HSm := Lib.hid hsame
    have HE := Lib.hid heq
    have HOk := Lib.hid hok
    clear hrows hb hsame heq hok
    by_cases hlt : k < xs.length
    · have hkr : k < rs.length := by omega
      obtain ⟨y, hy⟩ : ∃ y, rs[k]? = some y := ⟨rs[k], List.getElem?_eq_getElem hkr⟩
      obtain ⟨u, hu, hud⟩ := HXE.out.at hy
      have hvy := HV.out y (List.mem_of_getElem? hy)
      have hz : (k : Int) < xs.length := by omega
      obtain ⟨gx, ox, rfl, hXN⟩ := HX.out (by omega)
      have hgx := hXN.1
      have HXC := Lib.hid hXN.2
      have hcu : wr.cell? ⟨gx, ox + k, none⟩ = some (.string u) := (HB.out.cell (p := ⟨gx, ox + k, none⟩) hgx).trans (HXC.out k u hu)
      have hdrop := drop_at2 hy
      clear hXN
      by_cases h92 : y = 92
      · subst h92
        have he92 : (u.toList == [92]) = true := by rw [Lib.toList_data, hud, enc_low (by decide)]; rfl
        have hlt2 : k + 1 < rs.length := by
          rcases Nat.lt_or_ge (k + 1) rs.length with h | h
          · exact h
          · exfalso
            have h1 := HOk.out
            rw [hdrop, List.drop_of_length_le (by omega)] at h1
            simp [okN] at h1
        obtain ⟨y2, hy2⟩ : ∃ y2, rs[k + 1]? = some y2 := ⟨rs[k + 1], List.getElem?_eq_getElem hlt2⟩
        obtain ⟨x, hx, hxd⟩ := HXE.out.at hy2
        have hz2 : (k : Int) + 1 < xs.length := by omega
        have hcx : wr.cell? ⟨gx, ox + (k + 1), none⟩ = some (.string x) := (HB.out.cell (p := ⟨gx, ox + (k + 1), none⟩) hgx).trans (HXC.out (k + 1) x hx)
        rw [drop_at2 hy2] at hdrop
        have HN := Lib.hid (HSm.out.snoc (b := false) hxd)
        have HQ : Hid (D ++ [(y2, false)] ++ hlN (rs.drop (k + 2)) = hlN rs) := Lib.hid (by rw [← HE.out, hdrop, (hl_esc _ _).1]; simp)
        have HK : Hid (okN (rs.drop (k + 2)) = true) := Lib.hid (by have h1 := HOk.out; rw [hdrop, (hl_esc _ _).2] at h1; exact h1)
        clear hdrop hy hy2 hud hx hu
        go_wp2_with (first | (at_builtin; refine wpList_append_own _ rfl _ _ 36 rfl w1.heap.size 9 iS (.string ByteArray.empty) 1 16 Tryd.underlying36 hiS hzS0 hzS1 hzS2 rfl (by decide) _ _ _ rfl (HO1.out.alloc _) ⟨wr.heap.size, 0, none⟩ 1 1 [.string x] rfl rfl (RP.one_new _ _ _) (fun x hx => by simp at hx; subst hx; rfl) (by unfold maxLen; omega) (by omega) (by simp; omega) ?_; intro v3 w3 hown3 hgrow3 hnil3; have HB3 := Lib.hid ((HB.out.alloc hbs (.cells #[.string x] 9)).grown hgrow3 (by simp; omega) (fun j hj => (HO1.out.lt j hj).1)); have HD3 := Lib.hid ((HO2.out.alloc (.cells #[.string x] 9)).kept hgrow3 (other_row HO1.out HO2.out (by decide))); have HS3 := Lib.hid hown3; have hbs3 := HB3.out.size; have hcell3 : ∀ j z, xs[j]? = some z → w3.cell? ⟨gx, ox + j, none⟩ = some (.string z) := (fun j z hj => (HB3.out.cell (p := ⟨gx, ox + j, none⟩) hgx).trans (HXC.out j z hj)); have HC3 := Lib.hid hcell3;  clear hown3 hgrow3 hnil3 hcell3) | (at_builtin; refine wpList_append_own _ rfl _ _ 80 rfl w1.heap.size 4 iB (.bool false) 1 1 Tryd.underlying80 hiB hzB0 hzB1 hzB2 rfl (by decide) _ _ _ rfl (HD3.out.alloc _) ⟨w3.heap.size, 0, none⟩ 1 1 [.bool (false)] rfl rfl (RP.one_new _ _ _) (fun x hx => by simp at hx; subst hx; rfl) (by unfold maxLen; omega) (by omega) (by simp; omega) ?_; intro v4 w4 hown4 hgrow4 hnil4; have HB4 := Lib.hid ((HB3.out.alloc hbs3 (.cells #[.bool (false)] 4)).grown hgrow4 (by simp; omega) (fun j hj => (HD3.out.lt j hj).1)); have HS4 := Lib.hid ((HS3.out.alloc (.cells #[.bool (false)] 4)).kept hgrow4 (other_row HD3.out HS3.out (by decide))); have HD4 := Lib.hid hown4; clear hown4 hgrow4 hnil4))
        have HR4 : Hid (TwoRows w1.heap.size w4 v3 v4 (done ++ [(x, false)])) := Lib.hid ⟨by rw [List.length_append, List.map_append]; exact HS4.out, by rw [List.length_append, List.map_append]; exact HD4.out⟩
        clear HS4 HD4 HS3 HD3
        go_wp2
        go_roundw
        case rel => exact ⟨k + 2, done ++ [(x, false)], D ++ [(y2, false)], by omega, by go_num, HR4.out, HB4.out, HN.out, HQ.out, HK.out, by simp; omega⟩
        case measure => simp [Go.RowKit.intOf]; omega
      · have he92 : (u.toList == [92]) = false := by
          have h1 := text_is (b := 92) hud hvy (by decide)
          rw [decide_eq_false h92] at h1
          rw [Lib.toList_data] at h1 ⊢
          rw [Lib.toList_data] at h1
          exact h1
        have he45 : (u.toList == [45]) = decide (y = 45) := by
          have h1 := text_is (b := 45) hud hvy (by decide)
          rw [Lib.toList_data] at h1 ⊢
          rw [Lib.toList_data] at h1
          exact h1
        obtain ⟨x, rfl⟩ : ∃ x, x = u := ⟨u, rfl⟩
        have HN := Lib.hid (HSm.out.snoc (b := decide (y = 45)) hud)
        have HQ : Hid (D ++ [(y, decide (y = 45))] ++ hlN (rs.drop (k + 1)) = hlN rs) := Lib.hid (by rw [← HE.out, hdrop, (hl_plain h92 _).1]; simp)
        have HK : Hid (okN (rs.drop (k + 1)) = true) := Lib.hid (by have h1 := HOk.out; rw [hdrop, (hl_plain h92 _).2] at h1; exact h1)
        generalize hb45 : decide (y = 45) = b45 at he45 HN HQ
        clear hdrop hy hud hb45 h92
        go_wp2_with (first | (at_builtin; refine wpList_append_own _ rfl _ _ 36 rfl w1.heap.size 9 iS (.string ByteArray.empty) 1 16 Tryd.underlying36 hiS hzS0 hzS1 hzS2 rfl (by decide) _ _ _ rfl (HO1.out.alloc _) ⟨wr.heap.size, 0, none⟩ 1 1 [.string x] rfl rfl (RP.one_new _ _ _) (fun x hx => by simp at hx; subst hx; rfl) (by unfold maxLen; omega) (by omega) (by simp; omega) ?_; intro v3 w3 hown3 hgrow3 hnil3; have HB3 := Lib.hid ((HB.out.alloc hbs (.cells #[.string x] 9)).grown hgrow3 (by simp; omega) (fun j hj => (HO1.out.lt j hj).1)); have HD3 := Lib.hid ((HO2.out.alloc (.cells #[.string x] 9)).kept hgrow3 (other_row HO1.out HO2.out (by decide))); have HS3 := Lib.hid hown3; have hbs3 := HB3.out.size; have hcell3 : ∀ j z, xs[j]? = some z → w3.cell? ⟨gx, ox + j, none⟩ = some (.string z) := (fun j z hj => (HB3.out.cell (p := ⟨gx, ox + j, none⟩) hgx).trans (HXC.out j z hj)); have HC3 := Lib.hid hcell3; have hcu3 := hcell3 k x hu; clear hown3 hgrow3 hnil3 hcell3) | (at_builtin; refine wpList_append_own _ rfl _ _ 80 rfl w1.heap.size 4 iB (.bool false) 1 1 Tryd.underlying80 hiB hzB0 hzB1 hzB2 rfl (by decide) _ _ _ rfl (HD3.out.alloc _) ⟨w3.heap.size, 0, none⟩ 1 1 [.bool (b45)] rfl rfl (RP.one_new _ _ _) (fun x hx => by simp at hx; subst hx; rfl) (by unfold maxLen; omega) (by omega) (by simp; omega) ?_; intro v4 w4 hown4 hgrow4 hnil4; have HB4 := Lib.hid ((HB3.out.alloc hbs3 (.cells #[.bool (b45)] 4)).grown hgrow4 (by simp; omega) (fun j hj => (HD3.out.lt j hj).1)); have HS4 := Lib.hid ((HS3.out.alloc (.cells #[.bool (b45)] 4)).kept hgrow4 (other_row HD3.out HS3.out (by decide))); have HD4 := Lib.hid hown4; clear hown4 hgrow4 hnil4))
        have HR4 : Hid (TwoRows w1.heap.size w4 v3 v4 (done ++ [(x, b45)])) := Lib.hid ⟨by rw [List.length_append, List.map_append]; exact HS4.out, by rw [List.length_append, List.map_append]; exact HD4.out⟩
        clear HS4 HD4 HS3 HD3
        go_wp2
        go_roundw
        case rel => exact ⟨k + 1, done ++ [(x, b45)], D ++ [(y, b45)], by omega, by go_num, HR4.out, HB4.out, HN.out, HQ.out, HK.out, by simp; omega⟩
        case measure => simp [Go.RowKit.intOf]; omega
    · have hz : ¬ (k : Int) < xs.length := by omega
      have hDE : D = hlN rs := by
        have h1 := HE.out
        rw [List.drop_of_length_le (by omega)] at h1
        simpa [hlN] using h1
      subst hDE
      have HLen := Lib.hid HSm.out.len
      have HVD := Lib.hid (hl_vr _ rs (Nat.le_refl _) HV.out)
      generalize hlN rs = D at HLen HVD HSm HE HRR
      have hdn : done.length ≤ 400 := by omega
      obtain ⟨la, lc, hl1, _, _, _, hl5⟩ := row_view2 HO1.out
      obtain ⟨ba, bc, hb1, hb5⟩ := row_viewB HO2.out
      subst hl1 hb1
      have HL5 := Lib.hid hl5
      have HB5 := Lib.hid hb5
      clear hl5 hb5
      go_wp2_with fail
      go_loop [9] (fun s9 => ∃ j : Nat, j ≤ done.length ∧ s9 = .int .i64 j ∧ hdN (D.drop j) yr = R) (fun s9 => done.length - (Go.RowKit.intOf s9).toNat)
      case atStart => exact ⟨0, Nat.zero_le _, rfl, HRR.out⟩
      case round =>
        obtain ⟨j, hj, rfl, hR⟩ := hrel
        by_cases hjl : j < done.length
        · have hjD : j < D.length := by have := HLen.out; omega
          obtain ⟨a, ha⟩ : ∃ a, D[j]? = some a := ⟨D[j], List.getElem?_eq_getElem hjD⟩
          obtain ⟨xa, hxa, hxad⟩ := HSm.out.at ha
          have hva := HVD.out a (List.mem_of_getElem? ha)
          obtain ⟨gl, ol, rfl, hgl, hlc⟩ := HL5.out (by omega)
          obtain ⟨gb, ob, rfl, hgb, hbc⟩ := HB5.out (by omega)
          have c0 := hlc j _ hxa
          have hjz : (j : Int) < done.length := by omega
          have heqa := text_eq hxad HYr.out hva HYv.out
          rw [drop_at2 ha] at hR
          by_cases hj2 : j + 2 < done.length
          · have hj2z : (j : Int) + 2 < done.length := by omega
            obtain ⟨b, hb⟩ : ∃ b, D[j + 1]? = some b := ⟨D[j + 1]'(by have := HLen.out; omega), List.getElem?_eq_getElem _⟩
            obtain ⟨cc, hc⟩ : ∃ cc, D[j + 2]? = some cc := ⟨D[j + 2]'(by have := HLen.out; omega), List.getElem?_eq_getElem _⟩
            obtain ⟨xb, hxb, hxbd⟩ := HSm.out.at hb
            obtain ⟨xc, hxc, hxcd⟩ := HSm.out.at hc
            have hvc := HVD.out cc (List.mem_of_getElem? hc)
            have c1 := hbc (j + 1) _ hxb
            have c2 := hlc (j + 2) _ hxc
            have hj1z : (j : Int) + 1 < done.length := by omega
            rw [drop_at2 hb, drop_at2 hc] at hR
            obtain ⟨b1, b2⟩ := b
            cases b2
            · -- no span
              rw [hd_one (.inr fun q hq => by simp only [List.head?_cons, Option.some.injEq] at hq; rw [← hq]), ← drop_at2 hc, ← drop_at2 hb] at hR
              by_cases hay : a.1 = yr
              · rw [decide_eq_true hay] at hR heqa
                rw [Bool.true_or] at hR
                subst hR
                clear ha hb hc hxa hxb hxc hlc hbc
                go_wp2_with fail
                go_ret
                exact ⟨rfl, HW.out.trans (HB.out.mono HW.out.size)⟩
              · rw [decide_eq_false hay] at hR heqa
                rw [Bool.false_or] at hR
                have HR := Lib.hid hR
                clear ha hb hc hxa hxb hxc hlc hbc hR
                go_wp2_with fail
                go_round
                case rel => exact ⟨j + 1, by omega, by go_num, HR.out⟩
                case measure => simp [Go.RowKit.intOf]; omega
            · rw [hd_span _ _ _ _ rfl] at hR
              unfold inSp at hR
              have le1 := text_le hxad HYr.out hva HYv.out
              have le2 := text_le HYr.out hxcd HYv.out hvc
              by_cases g1 : a.1 ≤ yr
              · rw [decide_eq_true g1] at hR le1
                by_cases g2 : yr ≤ cc.1
                · rw [decide_eq_true g2] at hR le2
                  simp only [Bool.and_self, Bool.true_or] at hR
                  subst hR
                  clear ha hb hc hxa hxb hxc hlc hbc heqa
                  go_wp2_with fail
                  go_ret
                  exact ⟨rfl, HW.out.trans (HB.out.mono HW.out.size)⟩
                · rw [decide_eq_false g2] at hR le2
                  simp only [Bool.and_false, Bool.false_or] at hR
                  have HR := Lib.hid hR
                  clear ha hb hc hxa hxb hxc hlc hbc hR heqa
                  go_wp2_with fail
                  go_round
                  case rel => exact ⟨j + 3, by omega, by go_num, HR.out⟩
                  case measure => simp [Go.RowKit.intOf]; omega
              · rw [decide_eq_false g1] at hR le1
                simp only [Bool.false_and, Bool.false_or] at hR
                have HR := Lib.hid hR
                clear ha hb hc hxa hxb hxc hlc hbc hR heqa
                go_wp2_with fail
                go_round
                case rel => exact ⟨j + 3, by omega, by go_num, HR.out⟩
                case measure => simp [Go.RowKit.intOf]; omega
          · have hj2z : ¬ (j : Int) + 2 < done.length := by omega
            have hshort : (D.drop (j + 1)).length < 2 := by have := HLen.out; rw [List.length_drop]; omega
            rw [hd_one (.inl hshort)] at hR
            by_cases hay : a.1 = yr
            · rw [decide_eq_true hay] at hR heqa
              rw [Bool.true_or] at hR
              subst hR
              clear ha hxa hlc hbc hshort
              go_wp2_with fail
              go_ret
              exact ⟨rfl, HW.out.trans (HB.out.mono HW.out.size)⟩
            · rw [decide_eq_false hay] at hR heqa
              rw [Bool.false_or] at hR
              have HR := Lib.hid hR
              clear ha hxa hlc hbc hR hshort
              go_wp2_with fail
              go_round
              case rel => exact ⟨j + 1, by omega, by go_num, HR.out⟩
              case measure => simp [Go.RowKit.intOf]; omega
        · have hjz : ¬ (j : Int) < done.length := by omega
          rw [List.drop_of_length_le (by have := HLen.out; omega), hdN] at hR
          subst hR
          go_wp2_with fail
          go_ret
          exact ⟨rfl, HW.out.trans (HB.out.mono HW.out.size)⟩
end RO
end Go.Proofs.YtkfddnkeoopfbaaDoor
