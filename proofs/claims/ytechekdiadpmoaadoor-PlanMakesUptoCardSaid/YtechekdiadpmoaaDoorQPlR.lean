/- Texts of this seat, put one behind the other: PlRf PlRd PlRm. -/
import Derived.Test.YtechekdiadpmoaaDoorQPlRs
set_option linter.all false
set_option maxRecDepth 100000
set_option maxHeartbeats 25600000
section
/- Layer 13: the document's find, chosen, Program and does. -/
namespace Go.Proofs.YtechekdiadpmoaaDoor
open Go.RowKit Go.Lib Go.Maps Go.BigFrame
namespace PR
open OM TM PL PM PB

/-- The place of the first of a path. -/
def posN : List Pi → List UInt8 → Option Nat
  | [], _ => none
  | x :: r, p => if x.1 = p then some 0 else (posN r p).map (· + 1)
def posI (l : List Pi) (p : List UInt8) : Int := match posN l p with | some k => (k : Int) | none => -1
theorem posN_no {p : List UInt8} : ∀ {l : List Pi}, (∀ x ∈ l, x.1 ≠ p) → posN l p = none
  | [], _ => rfl
  | x :: r, h => by
    unfold posN
    rw [if_neg (h x (List.mem_cons_self ..)), posN_no fun y hy => h y (List.mem_cons_of_mem _ hy)]
    rfl
theorem posN_at {p : List UInt8} : ∀ {l : List Pi} {k : Nat} {x : Pi}, l[k]? = some x → x.1 = p → (∀ y ∈ l.take k, y.1 ≠ p) → posN l p = some k
  | [], k, x, h, _, _ => by simp at h
  | y :: r, 0, x, h, e, _ => by
    simp at h
    subst h
    unfold posN
    rw [if_pos e]
  | y :: r, k + 1, x, h, e, hn => by
    rw [List.getElem?_cons_succ] at h
    rw [List.take_succ_cons] at hn
    unfold posN
    rw [if_neg (hn y (List.mem_cons_self ..)), posN_at h e fun z hz => hn z (List.mem_cons_of_mem _ hz)]
    rfl
theorem posN_some {p : List UInt8} : ∀ {l : List Pi} {k : Nat}, posN l p = some k → ∃ v, l[k]? = some (p, v) ∧ findP l p = some v ∧ findP (l.take k) p = none
  | [], k, h => by cases h
  | x :: r, k, h => by
    unfold posN at h
    split at h
    · rename_i e
      injection h with h
      subst h
      refine ⟨x.2, by rw [← e]; rfl, ?_, rfl⟩
      unfold findP
      rw [if_pos e]
    · rename_i e
      cases hr : posN r p with
      | none => rw [hr] at h; cases h
      | some j =>
        rw [hr] at h
        injection h with h
        subst h
        obtain ⟨v, a, b, c⟩ := posN_some hr
        refine ⟨v, by rw [List.getElem?_cons_succ]; exact a, ?_, ?_⟩
        · unfold findP
          rw [if_neg e]
          exact b
        · rw [List.take_succ_cons]
          unfold findP
          rw [if_neg e]
          exact c
theorem posN_none {p : List UInt8} : ∀ {l : List Pi}, posN l p = none → findP l p = none
  | [], _ => rfl
  | x :: r, h => by
    unfold posN at h
    split at h
    · cases h
    · rename_i e
      unfold findP
      rw [if_neg e]
      refine posN_none ?_
      cases hr : posN r p with
      | none => rfl
      | some j => rw [hr] at h; cases h
set_option maxRecDepth 100000 in
set_option maxHeartbeats 1600000 in
theorem find_any (ao : Option Addr) (ca : Nat) (L : List Pi) (p : List UInt8) (w : World) (ha : LayP w ao L) (la : L.length ≤ 1048576) :
    Calls Tryd.prog 30 #[.slice ao L.length ca, txt p] w fun r w' => r = .returned (.int .i64 (posI L p)) ∧ Below w.heap.size w w' := by
  obtain ⟨n, hn⟩ : ∃ n, L.length = n := ⟨_, rfl⟩
  have HN := Lib.hid hn
  have HA := Lib.hid ha
  rw [hn] at la ⊢
  have hnz : (n : Int) ≤ 9223372036854775807 := by omega
  clear ha hn
  unfold txt
  have h0 : Hid (∀ x ∈ L.take 0, x.1 ≠ p) := Lib.hid (fun x hx => by simp at hx)
  go_enter Tryd.func30, Tryd.ntmps30
  repeat (first | go_skip | go_guarded | go_step | go_upon)
  go_loopw [5] (fun s5 wr => ∃ k : Nat, s5 = .int .i64 k ∧ k ≤ n ∧ (∀ x ∈ L.take k, x.1 ≠ p) ∧ Below w.heap.size w wr) (fun s5 _ => n - (Go.RowKit.intOf s5).toNat)
  case atStart => exact ⟨0, rfl, Nat.zero_le _, h0.out, Below.refl _ _⟩
  case round =>
    obtain ⟨k, rfl, hk, ht, hbl⟩ := hrel
    have HT := Lib.hid ht
    have HW := Lib.hid hbl
    have HAr := Lib.hid (HA.out.below hbl)
    clear ht hbl
    by_cases hlt : k < n
    · have hkz : (k : Int) < n := by omega
      obtain ⟨g1, o1, rfl, _, hc1⟩ := HAr.out (by rw [HN.out]; omega)
      obtain ⟨x, hx⟩ : ∃ x, L[k]? = some x := ⟨L[k]'(by rw [HN.out]; exact hlt), List.getElem?_eq_getElem _⟩
      obtain ⟨x0, x1⟩ := hc1 k x hx
      have HX := Lib.hid hx
      obtain ⟨xp, xv⟩ := x
      simp only at x0 x1
      unfold txt at x0
      clear hc1 hx
      by_cases hxy : xp = p
      · have hcmp : (xp == p) = true := by simpa using hxy
        have hE : Hid (posI L p = k) := Lib.hid (by unfold posI; rw [posN_at HX.out hxy HT.out])
        clear hxy
        repeat (first | go_skip | go_guarded | go_step | go_upon)
        go_ret
        exact ⟨by rw [hE.out]; rfl, HW.out⟩
      · have hcmp : (xp == p) = false := by simpa using hxy
        have hE : Hid (∀ x ∈ L.take (k + 1), x.1 ≠ p) := Lib.hid (by
          intro y hy
          rw [List.take_add_one, HX.out] at hy
          rcases List.mem_append.1 hy with hy | hy
          · exact HT.out y hy
          · simp at hy
            rw [hy]
            exact hxy)
        clear hxy
        repeat (first | go_skip | go_guarded | go_step | go_upon)
        exact ⟨⟨k + 1, by go_num, by omega, hE.out, HW.out⟩, by simp [Go.RowKit.intOf]; omega⟩
    · obtain rfl : k = n := by omega
      have hE : Hid (posI L p = -1) := Lib.hid (by
        have h := HT.out
        rw [List.take_of_length_le (by rw [HN.out]; exact Nat.le_refl _)] at h
        unfold posI
        rw [posN_no h])
      repeat (first | go_skip | go_guarded | go_step | go_upon)
      go_ret
      exact ⟨by rw [hE.out]; rfl, HW.out⟩
set_option maxRecDepth 100000 in
set_option maxHeartbeats 1600000 in
theorem chosen_any (ao : Option Addr) (ca : Nat) (L : List Pi) (p : List UInt8) (w : World) (ha : LayP w ao L) (la : L.length ≤ 1048576) :
    Calls Tryd.prog 31 #[.slice ao L.length ca, txt p] w fun r w' => r = .returned (.int .i64 (posI L p)) ∧ Below w.heap.size w w' := by
  obtain ⟨n, hn⟩ : ∃ n, L.length = n := ⟨_, rfl⟩
  have HN := Lib.hid hn
  have HA := Lib.hid ha
  rw [hn] at la ⊢
  have hnz : (n : Int) ≤ 9223372036854775807 := by omega
  clear ha hn
  unfold txt
  have h0 : Hid (∀ x ∈ L.take 0, x.1 ≠ p) := Lib.hid (fun x hx => by simp at hx)
  go_enter Tryd.func31, Tryd.ntmps31
  repeat (first | go_skip | go_guarded | go_step | go_upon)
  go_loopw [5] (fun s5 wr => ∃ k : Nat, s5 = .int .i64 k ∧ k ≤ n ∧ (∀ x ∈ L.take k, x.1 ≠ p) ∧ Below w.heap.size w wr) (fun s5 _ => n - (Go.RowKit.intOf s5).toNat)
  case atStart => exact ⟨0, rfl, Nat.zero_le _, h0.out, Below.refl _ _⟩
  case round =>
    obtain ⟨k, rfl, hk, ht, hbl⟩ := hrel
    have HT := Lib.hid ht
    have HW := Lib.hid hbl
    have HAr := Lib.hid (HA.out.below hbl)
    clear ht hbl
    by_cases hlt : k < n
    · have hkz : (k : Int) < n := by omega
      obtain ⟨g1, o1, rfl, _, hc1⟩ := HAr.out (by rw [HN.out]; omega)
      obtain ⟨x, hx⟩ : ∃ x, L[k]? = some x := ⟨L[k]'(by rw [HN.out]; exact hlt), List.getElem?_eq_getElem _⟩
      obtain ⟨x0, x1⟩ := hc1 k x hx
      have HX := Lib.hid hx
      obtain ⟨xp, xv⟩ := x
      simp only at x0 x1
      unfold txt at x0
      clear hc1 hx
      by_cases hxy : xp = p
      · have hcmp : (xp == p) = true := by simpa using hxy
        have hE : Hid (posI L p = k) := Lib.hid (by unfold posI; rw [posN_at HX.out hxy HT.out])
        clear hxy
        repeat (first | go_skip | go_guarded | go_step | go_upon)
        go_ret
        exact ⟨by rw [hE.out]; rfl, HW.out⟩
      · have hcmp : (xp == p) = false := by simpa using hxy
        have hE : Hid (∀ x ∈ L.take (k + 1), x.1 ≠ p) := Lib.hid (by
          intro y hy
          rw [List.take_add_one, HX.out] at hy
          rcases List.mem_append.1 hy with hy | hy
          · exact HT.out y hy
          · simp at hy
            rw [hy]
            exact hxy)
        clear hxy
        repeat (first | go_skip | go_guarded | go_step | go_upon)
        exact ⟨⟨k + 1, by go_num, by omega, hE.out, HW.out⟩, by simp [Go.RowKit.intOf]; omega⟩
    · obtain rfl : k = n := by omega
      have hE : Hid (posI L p = -1) := Lib.hid (by
        have h := HT.out
        rw [List.take_of_length_le (by rw [HN.out]; exact Nat.le_refl _)] at h
        unfold posI
        rw [posN_no h])
      repeat (first | go_skip | go_guarded | go_step | go_upon)
      go_ret
      exact ⟨by rw [hE.out]; rfl, HW.out⟩
/- Program -/
def MatchR : Prop := ∀ (p q : ByteArray) (W : World), p.size ≤ maxLen → q.size ≤ 1048576 → Calls Tryd.prog 35 #[.string p, .string q] W (fun e w' => e = .returned (.bool (GP.matL p.data.toList q.data.toList)) ∧ Below W.heap.size W w')
theorem prog_snoc (M : List Pm) (x : Pm) (p : List UInt8) : progL (M ++ [x]) p = if GP.matL x.2 p = true then x.1 else progL M p := by
  unfold progL
  rw [List.reverse_append]
  rfl
set_option maxRecDepth 100000 in
set_option maxHeartbeats 3200000 in
theorem rprog_any (hMS : MatchR) (v0 v1 : Value) (mo : Option Addr) (mc : Nat) (M : List Pm) (pr fo : Int) (ba fa : Bool) (p : List UInt8) (w : World) (hM : ArgM w mo mc M) (hp : p.length ≤ 1048576) :
    Calls Tryd.prog 20 #[profV v0 v1 mo M.length mc pr fo ba fa, txt p] w fun e W' => e = .returned (txt (progL M p)) ∧ Below w.heap.size w W' := by
  have hlen := hM.len
  obtain ⟨n, hn⟩ : ∃ n, M.length = n := ⟨_, rfl⟩
  have HN := Lib.hid hn
  have HM := Lib.hid hM
  rw [hn] at hlen ⊢
  have CMt : Hid (∀ (m : List UInt8) (W : World), m.length ≤ 1048576 → Calls Tryd.prog 35 #[txt m, txt p] W fun e W' => e = .returned (.bool (GP.matL m p)) ∧ Below W.heap.size W W') := Lib.hid (fun m W h1 => by
    have := hMS ⟨m.toArray⟩ ⟨p.toArray⟩ W (by rw [Lib.size_eq]; unfold maxLen; show m.length ≤ _; omega) (by rw [Lib.size_eq]; exact hp)
    exact this)
  unfold profV
  unfold txt at CMt ⊢
  have hz : (n : Int) ≤ 9223372036854775807 := by omega
  have h0 : Hid (progL (M.take 0) p = []) := Lib.hid rfl
  clear hM hp hn hMS
  go_enter Tryd.func20, Tryd.ntmps20
  repeat (first | go_skip | go_guarded | go_step | go_upon)
  have hAr := heap_alloc_new w (.cells #[v0, v1, .slice mo n mc, .int .i64 pr, .int .i64 fo, .bool ba, .bool fa] 39)
  have hA0 : Hid (Below w.heap.size w (w.alloc (.cells #[v0, v1, .slice mo n mc, .int .i64 pr, .int .i64 fo, .bool ba, .bool fa] 39))) := Lib.hid ((Below.refl _ _).alloc (Nat.le_refl _) _)
  generalize w.alloc (.cells #[v0, v1, .slice mo n mc, .int .i64 pr, .int .i64 fo, .bool ba, .bool fa] 39) = wA at hA0 hAr ⊢
  have HAr := Lib.hid hAr
  clear hAr
  have h0' : Hid (Value.string { data := #[] } = txt (progL (M.take 0) p)) := Lib.hid rfl
  go_loopw [5, 6] (fun s5 s6 wr => ∃ k : Nat, s6 = .int .i64 k ∧ k ≤ n ∧ s5 = txt (progL (M.take k) p) ∧ Below wA.heap.size wA wr) (fun _ s6 _ => n - (Go.RowKit.intOf s6).toNat)
  case atStart => exact ⟨0, rfl, Nat.zero_le _, h0'.out, Below.refl _ _⟩
  case round =>
    obtain ⟨k, rfl, hk, rfl, hb⟩ := hrel
    have HW := Lib.hid (hA0.out.trans (hb.mono hA0.out.size))
    have HB := Lib.hid hb
    obtain ⟨y0, y1, y2, y3, y4, y5, y6⟩ := cells7 (row_below HAr.out hb)
    clear hb
    obtain ⟨F, hF⟩ : ∃ F, progL (M.take k) p = F := ⟨_, rfl⟩
    have HF := Lib.hid hF
    rw [hF]
    clear hF
    unfold txt
    by_cases hlt : k < n
    · have hkz : (k : Int) < n := by omega
      obtain ⟨g, o, rfl, hg, hc⟩ := (HM.out.below HW.out).lay (by rw [HN.out]; omega)
      obtain ⟨⟨a, m⟩, hx⟩ : ∃ x, M[k]? = some x := ⟨M[k]'(by rw [HN.out]; exact hlt), List.getElem?_eq_getElem _⟩
      have hms : m.length ≤ 1048576 := (HM.out.small (a, m) (List.mem_of_getElem? hx)).2
      obtain ⟨a0, a1⟩ := hc k _ hx
      simp only at a0 a1
      have A0 := Lib.hid ((Below.refl wr.heap.size wr).cell (p := ⟨g, o + k * 2, none⟩) hg)
      have HG := Lib.hid hg
      have HA0 := Lib.hid a0
      have C2 := Lib.hid (CMt.out m wr hms)
      have HX : Hid (progL (M.take (k + 1)) p = if GP.matL m p = true then a else F) := Lib.hid (by rw [List.take_add_one, hx]; exact (prog_snoc _ _ _).trans (by rw [HF.out]))
      obtain ⟨b, hbm⟩ : ∃ b, GP.matL m p = b := ⟨_, rfl⟩
      rw [hbm] at C2 HX
      unfold txt at a0 a1 HA0
      clear hc hx hms hbm A0
      cases b with
      | true =>
        have HX : Hid (progL (M.take (k + 1)) p = a) := HX
        repeat (first | go_skip | go_guarded | go_step | go_upon)
        refine C2.out.mono ?_
        rintro r w2 ⟨rfl, hb2⟩
        simp only []
        have B2 := Lib.hid (HB.out.trans (hb2.mono HB.out.size))
        obtain ⟨z0, z1, z2, z3, z4, z5, z6⟩ := cells7 (row_below HAr.out B2.out)
        have a02 := (hb2.cell (p := ⟨g, o + k * 2, none⟩) HG.out).trans HA0.out
        clear hb2
        repeat (first | go_skip | go_guarded | go_step | go_upon)
        exact ⟨⟨k + 1, by go_num, by omega, by rw [HX.out], B2.out⟩, by simp [Go.RowKit.intOf]; omega⟩
      | false =>
        have HX : Hid (progL (M.take (k + 1)) p = F) := HX
        repeat (first | go_skip | go_guarded | go_step | go_upon)
        refine C2.out.mono ?_
        rintro r w2 ⟨rfl, hb2⟩
        simp only []
        have B2 := Lib.hid (HB.out.trans (hb2.mono HB.out.size))
        clear hb2
        repeat (first | go_skip | go_guarded | go_step | go_upon)
        exact ⟨⟨k + 1, by go_num, by omega, by rw [HX.out], B2.out⟩, by simp [Go.RowKit.intOf]; omega⟩
    · obtain rfl : k = n := by omega
      have hE : Hid (F = progL M p) := Lib.hid (by
        have h := HF.out
        rw [List.take_of_length_le (by rw [HN.out]; exact Nat.le_refl _)] at h
        exact h.symm)
      repeat (first | go_skip | go_guarded | go_step | go_upon)
      go_ret
      exact ⟨by rw [hE.out]; rfl, HW.out⟩
end PR
end Go.Proofs.YtechekdiadpmoaaDoor
end
section
/- Layer 13: the document's does. -/
namespace Go.Proofs.YtechekdiadpmoaaDoor
open Go.RowKit Go.Lib Go.Maps Go.BigFrame
namespace PR
open OM TM PL PM PB

def doesF (fo pr : Int) (ba : Bool) (G : List UInt8) (k : Int) : Int :=
  if fo = 1 ∨ fo = 2 then fo else if k = 4 ∧ G ≠ [] then 3 else if k = 4 ∧ (pr = 1 ∨ pr = 2) then pr else if k ≠ 4 ∧ ba = true then dirI k else 0
theorem does_eq (fo pr : Int) (ba : Bool) (M : List Pm) (C : List Pi) (p : List UInt8) (k : Int) (h4 : findP C p = some 4 → k ≠ 4) {J F : Int} (hJ : posI C p = J) (hF : settleL ⟨fo, pr, ba, fun q => decide (progL M q ≠ [])⟩ C (p, k) = F) :
    (∃ (j : Nat) (d : Int), J = j ∧ C[j]? = some (p, d) ∧ (F = if d = 4 then dirI k else d) ∧ (d = 4 → k ≠ 4)) ∨ (J = -1 ∧ F = doesF fo pr ba (progL M p) k) := by
  unfold posI at hJ
  unfold settleL at hF
  simp only at hF
  cases hp : posN C p with
  | some j =>
    rw [hp] at hJ
    obtain ⟨d, a, b, -⟩ := posN_some hp
    rw [b] at hF h4
    refine .inl ⟨j, d, hJ.symm, a, hF.symm, fun e => h4 (by rw [e])⟩
  | none =>
    rw [hp] at hJ
    rw [posN_none hp] at hF
    refine .inr ⟨hJ.symm, ?_⟩
    rw [← hF]
    unfold doesF
    simp only [decide_eq_true_eq]
set_option maxRecDepth 100000 in
set_option maxHeartbeats 6400000 in
theorem does_any (hMS : MatchR) (iv : Option Addr) (il ic : Nat) (jv : Option Addr) (jl jc : Nat) (mo : Option Addr) (mc : Nat) (M : List Pm) (pr fo : Int) (ba fa : Bool) (i : Pi) (co : Option Addr) (cc : Nat) (C : List Pi) (w : World) (hM : ArgM w mo mc M) (hp : i.1.length ≤ 1048576) (hC : LayP w co C) (lC : C.length ≤ 1048576) (hw : i.2 = 2 ∨ i.2 = 3 ∨ i.2 = 4) (h4 : findP C i.1 = some 4 → i.2 ≠ 4) :
    Calls Tryd.prog 32 #[itV i, profV (.slice iv il ic) (.slice jv jl jc) mo M.length mc pr fo ba fa, .slice co C.length cc] w fun r w' => r = .returned (.int .i64 (settleL ⟨fo, pr, ba, fun q => decide (progL M q ≠ [])⟩ C i)) ∧ Below w.heap.size w w' := by
  obtain ⟨p, k⟩ := i
  simp only at hp hw h4
  have CC : Hid (∀ W, Below w.heap.size w W → Calls Tryd.prog 31 #[.slice co C.length cc, txt p] W fun r w' => r = .returned (.int .i64 (posI C p)) ∧ Below W.heap.size W w') := Lib.hid (fun W hW => chosen_any co cc C p W (hC.below hW) lC)
  have CP : Hid (∀ W, Below w.heap.size w W → Calls Tryd.prog 20 #[profV (.slice iv il ic) (.slice jv jl jc) mo M.length mc pr fo ba fa, txt p] W fun r w' => r = .returned (txt (progL M p)) ∧ Below W.heap.size W w') := Lib.hid (fun W hW => rprog_any hMS _ _ mo mc M pr fo ba fa p W (hM.below hW) hp)
  have HC := Lib.hid hC
  obtain ⟨F, hF⟩ : ∃ F, settleL ⟨fo, pr, ba, fun q => decide (progL M q ≠ [])⟩ C (p, k) = F := ⟨_, rfl⟩
  obtain ⟨J, hJ⟩ : ∃ J, posI C p = J := ⟨_, rfl⟩
  have HE := Lib.hid (does_eq fo pr ba M C p k h4 hJ hF)
  obtain ⟨G, hG⟩ : ∃ G, progL M p = G := ⟨_, rfl⟩
  obtain ⟨nm, hnm⟩ : ∃ nm, M.length = nm := ⟨_, rfl⟩
  obtain ⟨m, hm⟩ : ∃ m, C.length = m := ⟨_, rfl⟩
  have HM := Lib.hid hm
  rw [hF, hnm, hm]
  rw [hm, hJ] at CC
  rw [hnm, hG] at CP
  rw [hG] at HE
  unfold profV txt at CP
  unfold txt at CC
  unfold profV itV
  simp only
  have HW := Lib.hid hw
  clear hMS hM hp hC lC hw h4 hF hJ hG hnm hm
  have HB0 : Hid (Below w.heap.size w ((w.alloc (.cells #[.string ⟨p.toArray⟩, .int .i64 k] 34)).alloc (.cells #[.slice iv il ic, .slice jv jl jc, .slice mo nm mc, .int .i64 pr, .int .i64 fo, .bool ba, .bool fa] 39))) := Lib.hid (((Below.refl _ _).alloc (Nat.le_refl _) _).alloc (by simp) _)
  have HX : Hid (∀ W, Below ((w.alloc (.cells #[.string ⟨p.toArray⟩, .int .i64 k] 34)).alloc (.cells #[.slice iv il ic, .slice jv jl jc, .slice mo nm mc, .int .i64 pr, .int .i64 fo, .bool ba, .bool fa] 39)).heap.size ((w.alloc (.cells #[.string ⟨p.toArray⟩, .int .i64 k] 34)).alloc (.cells #[.slice iv il ic, .slice jv jl jc, .slice mo nm mc, .int .i64 pr, .int .i64 fo, .bool ba, .bool fa] 39)) W →
      W.heap[w.heap.size]? = some (.cells #[.string ⟨p.toArray⟩, .int .i64 k] 34 (0, 0)) ∧ W.heap[w.heap.size + 1]? = some (.cells #[.slice iv il ic, .slice jv jl jc, .slice mo nm mc, .int .i64 pr, .int .i64 fo, .bool ba, .bool fa] 39 (0, 0))) := Lib.hid (fun W hW => by
    have h1 := heap_alloc_new w (.cells #[.string ⟨p.toArray⟩, .int .i64 k] 34)
    have h2 := heap_alloc_new (w.alloc (.cells #[.string ⟨p.toArray⟩, .int .i64 k] 34)) (.cells #[.slice iv il ic, .slice jv jl jc, .slice mo nm mc, .int .i64 pr, .int .i64 fo, .bool ba, .bool fa] 39)
    have h3 := row_below h1 ((Below.refl _ _).alloc (Nat.le_refl _) (.cells #[.slice iv il ic, .slice jv jl jc, .slice mo nm mc, .int .i64 pr, .int .i64 fo, .bool ba, .bool fa] 39))
    have hs : (w.alloc (.cells #[.string ⟨p.toArray⟩, .int .i64 k] 34)).heap.size = w.heap.size + 1 := by simp
    rw [hs] at h2
    exact ⟨row_below h3 hW, row_below h2 hW⟩)
  go_enter Tryd.func32, Tryd.ntmps32
  repeat (first | go_skip | go_guarded | go_step | go_upon)
  generalize (w.alloc (.cells #[.string ⟨p.toArray⟩, .int .i64 k] 34)).alloc (.cells #[.slice iv il ic, .slice jv jl jc, .slice mo nm mc, .int .i64 pr, .int .i64 fo, .bool ba, .bool fa] 39) = w0 at HB0 HX ⊢
  refine (CC.out w0 HB0.out).mono ?_
  rintro r w1 ⟨rfl, hb1⟩
  simp only []
  have B1 := Lib.hid (HB0.out.trans (hb1.mono HB0.out.size))
  have B01 := Lib.hid hb1
  obtain ⟨y0, y1⟩ := cells2 (HX.out w1 hb1).1
  obtain ⟨x0, x1, x2, x3, x4, x5, x6⟩ := cells7 (HX.out w1 hb1).2
  clear hb1
  rcases HE.out with ⟨j, d, rfl, hCj, hF, h4⟩ | ⟨rfl, hF⟩
  · have hj : j < C.length := (List.getElem?_eq_some_iff.1 hCj).1
    obtain ⟨g, o, rfl, hg, hc⟩ := (HC.out.below B1.out) (by omega)
    obtain ⟨c0, c1⟩ := hc j _ hCj
    simp only at c0 c1
    rw [HM.out] at hj
    have hjz : (j : Int) < m := by omega
    have hj0 : (0 : Int) ≤ (j : Nat) := by omega
    have HF := Lib.hid hF
    clear hc hg hCj hF HE c0
    by_cases hd : d = 4
    · subst hd
      have hk := h4 rfl
      clear h4
      rcases HW.out with rfl | rfl | rfl
      · repeat (first | go_skip | go_guarded | go_step | go_upon)
        go_ret
        exact ⟨by rw [HF.out]; rfl, B1.out⟩
      · repeat (first | go_skip | go_guarded | go_step | go_upon)
        go_ret
        exact ⟨by rw [HF.out]; rfl, B1.out⟩
      · exact absurd rfl hk
    · have z : (d != 4) = true := by simpa using hd
      have HF2 : Hid (F = d) := Lib.hid (by rw [HF.out, if_neg hd])
      clear h4 hd HF
      repeat (first | go_skip | go_guarded | go_step | go_upon)
      go_ret
      exact ⟨by rw [HF2.out]; rfl, B1.out⟩
  · unfold doesF at hF
    by_cases f1 : fo = 1
    · subst f1
      have HF : Hid (F = 1) := Lib.hid (by rw [hF]; simp)
      clear hF HE
      repeat (first | go_skip | go_guarded | go_step | go_upon)
      go_ret
      exact ⟨by rw [HF.out]; rfl, B1.out⟩
    · by_cases f2 : fo = 2
      · subst f2
        have HF : Hid (F = 2) := Lib.hid (by rw [hF]; simp)
        clear hF HE f1
        repeat (first | go_skip | go_guarded | go_step | go_upon)
        go_ret
        exact ⟨by rw [HF.out]; rfl, B1.out⟩
      · have z1 : (fo == 1) = false := by simpa using f1
        have z2 : (fo == 2) = false := by simpa using f2
        rw [if_neg (by omega)] at hF
        clear f1 f2 HE
        rcases HW.out with rfl | rfl | rfl
        · cases ba with
          | true =>
            have HF : Hid (F = 1) := Lib.hid hF
            clear hF
            repeat (first | go_skip | go_guarded | go_step | go_upon)
            go_ret
            exact ⟨by rw [HF.out]; rfl, B1.out⟩
          | false =>
            have HF : Hid (F = 0) := Lib.hid hF
            clear hF
            repeat (first | go_skip | go_guarded | go_step | go_upon)
            go_ret
            exact ⟨by rw [HF.out]; rfl, B1.out⟩
        · cases ba with
          | true =>
            have HF : Hid (F = 2) := Lib.hid hF
            clear hF
            repeat (first | go_skip | go_guarded | go_step | go_upon)
            go_ret
            exact ⟨by rw [HF.out]; rfl, B1.out⟩
          | false =>
            have HF : Hid (F = 0) := Lib.hid hF
            clear hF
            repeat (first | go_skip | go_guarded | go_step | go_upon)
            go_ret
            exact ⟨by rw [HF.out]; rfl, B1.out⟩
        · repeat (first | go_skip | go_guarded | go_step | go_upon)
          refine (CP.out w1 B1.out).mono ?_
          rintro r w2 ⟨rfl, hb2⟩
          simp only []
          have B2 := Lib.hid (B1.out.trans (hb2.mono B1.out.size))
          have B02 := B01.out.trans (hb2.mono B01.out.size)
          clear y0 y1 x0 x1 x2 x3 x4 x5 x6 hb2
          obtain ⟨y0, y1⟩ := cells2 (HX.out w2 B02).1
          obtain ⟨x0, x1, x2, x3, x4, x5, x6⟩ := cells7 (HX.out w2 B02).2
          clear B02
          cases G with
          | cons g0 G =>
            have HF : Hid (F = 3) := Lib.hid (by rw [hF]; simp)
            clear hF
            repeat (first | go_skip | go_guarded | go_step | go_upon)
            go_ret
            exact ⟨by rw [HF.out]; rfl, B2.out⟩
          | nil =>
            rw [if_neg (by simp)] at hF
            by_cases p1 : pr = 1
            · subst p1
              have HF : Hid (F = 1) := Lib.hid (by rw [hF]; simp)
              clear hF
              repeat (first | go_skip | go_guarded | go_step | go_upon)
              go_ret
              exact ⟨by rw [HF.out]; rfl, B2.out⟩
            · by_cases p2 : pr = 2
              · subst p2
                have HF : Hid (F = 2) := Lib.hid (by rw [hF]; simp)
                clear hF p1
                repeat (first | go_skip | go_guarded | go_step | go_upon)
                go_ret
                exact ⟨by rw [HF.out]; rfl, B2.out⟩
              · have q1 : (pr == 1) = false := by simpa using p1
                have q2 : (pr == 2) = false := by simpa using p2
                have HF : Hid (F = 0) := Lib.hid (by rw [hF, if_neg (by omega)]; rfl)
                clear hF p1 p2
                repeat (first | go_skip | go_guarded | go_step | go_upon)
                go_ret
                exact ⟨by rw [HF.out]; rfl, B2.out⟩
end PR
end Go.Proofs.YtechekdiadpmoaaDoor
end
section
/- Layer 13: the document's Make. -/
namespace Go.Proofs.YtechekdiadpmoaaDoor
open Go.RowKit Go.Lib Go.Maps Go.BigFrame
namespace PR
open OM TM PL PM PB

theorem badI_app (r : List Pi) : ∀ (l acc : List Pi) (n : Nat), badI acc l = some n → badI acc (l ++ r) = some n
  | [], acc, n, h => by cases h
  | x :: l, acc, n, h => by
    rw [List.cons_append]
    unfold badI at h ⊢
    split
    · rename_i hc
      rw [if_pos hc] at h
      exact badI_app r l _ n h
    · rename_i hc
      rw [if_neg hc] at h
      exact h
theorem badC_app (items r : List Pi) : ∀ (l acc : List Pi) (n : Nat), badC items acc l = some n → badC items acc (l ++ r) = some n
  | [], acc, n, h => by cases h
  | x :: l, acc, n, h => by
    rw [List.cons_append]
    unfold badC at h ⊢
    split
    · rename_i hc
      rw [if_pos hc] at h
      exact badC_app items r l _ n h
    · rename_i hc
      rw [if_neg hc] at h
      exact h
theorem badI_stop {items : List Pi} {k n : Nat} (h : badI [] (items.take k) = some n) : badI [] items = some n := by
  have := badI_app (items.drop k) _ _ _ h
  rw [List.take_append_drop] at this
  exact this
theorem badC_stop {items cs : List Pi} {k n : Nat} (h : badC items [] (cs.take k) = some n) : badC items [] cs = some n := by
  have := badC_app items (cs.drop k) _ _ _ h
  rw [List.take_append_drop] at this
  exact this
theorem badI_take {items : List Pi} (h : badI [] items = none) (k : Nat) : badI [] (items.take k) = none := by
  cases hb : badI [] (items.take k) with
  | none => rfl
  | some n => rw [badI_stop hb] at h; cases h
theorem badC_take {items cs : List Pi} (h : badC items [] cs = none) (k : Nat) : badC items [] (cs.take k) = none := by
  cases hb : badC items [] (cs.take k) with
  | none => rfl
  | some n => rw [badC_stop hb] at h; cases h
theorem take_len {L : List Pi} {k : Nat} {x : Pi} (h : L[k]? = some x) : (L.take k).length = k := by
  have := (List.getElem?_eq_some_iff.1 h).1
  rw [List.length_take]
  omega
theorem item_step {items : List Pi} {k : Nat} {x : Pi} (hx : items[k]? = some x) (hb : badI [] (items.take k) = none) : badI [] (items.take (k + 1)) = if isWhatB x.2 = true ∧ findP (items.take k) x.1 = none then none else some k := by
  rw [List.take_add_one, hx]
  show badI [] (items.take k ++ [x]) = _
  rw [badI_snoc, hb]
  simp only [List.nil_append, List.length_nil, Nat.zero_add, take_len hx]
theorem choice_step {items cs : List Pi} {k : Nat} {x : Pi} (hx : cs[k]? = some x) (hb : badC items [] (cs.take k) = none) : badC items [] (cs.take (k + 1)) = if findP (cs.take k) x.1 = none ∧ okChoice x.2 (whatAt items x.1) = true then none else some k := by
  rw [List.take_add_one, hx]
  show badC items [] (cs.take k ++ [x]) = _
  rw [badC_snoc, hb]
  simp only [List.nil_append, List.length_nil, Nat.zero_add, take_len hx]
theorem pos_lt {L : List Pi} {k : Nat} {x : Pi} (hx : L[k]? = some x) : (posI L x.1 < (k : Int) ↔ findP (L.take k) x.1 ≠ none) := by
  unfold posI
  cases hp : posN L x.1 with
  | none => exact absurd rfl (find_none (posN_none hp) x (List.mem_of_getElem? hx))
  | some j =>
    obtain ⟨v, a, b, c⟩ := posN_some hp
    constructor
    · intro hj hn
      have hj : j < k := by simp only at hj; omega
      exact find_none hn (x.1, v) (List.mem_of_getElem? (by rw [List.getElem?_take_of_lt hj]; exact a)) rfl
    · intro hn
      simp only
      apply Decidable.byContradiction
      intro hj
      refine hn (find_no fun y hy => find_none c y ?_)
      have : L.take k = (L.take j).take k := by rw [List.take_take, Nat.min_eq_left (by omega)]
      rw [this] at hy
      exact List.mem_of_mem_take hy
theorem what_of {items : List Pi} (h : badI [] items = none) {k : Nat} {x : Pi} (hx : items[k]? = some x) : isWhatB x.2 = true ∧ findP items x.1 = some x.2 := by
  have h1 := item_step hx (badI_take h k)
  rw [badI_take h (k + 1)] at h1
  by_cases hc : isWhatB x.2 = true ∧ findP (items.take k) x.1 = none
  · refine ⟨hc.1, ?_⟩
    have e : items = (items.take k ++ [x]) ++ items.drop (k + 1) := by
      have := List.take_append_drop (k + 1) items
      rw [List.take_add_one, hx] at this
      exact this.symm
    have key : ∀ (a b : List Pi) (p : List UInt8) (d : Int), findP a p = some d → findP (a ++ b) p = some d := by
      intro a b p d
      induction a with
      | nil => intro h; cases h
      | cons y a ih =>
        intro h
        rw [List.cons_append]
        unfold findP at h ⊢
        split
        · rename_i hy; rw [if_pos hy] at h; exact h
        · rename_i hy; rw [if_neg hy] at h; exact ih h
    rw [e]
    refine key _ _ _ _ ?_
    rw [find_snoc, hc.2]
    simp
  · rw [if_neg hc] at h1
    cases h1
theorem choice_of {items cs : List Pi} (h : badC items [] cs = none) {c : Pi} (hc : c ∈ cs) : okChoice c.2 (whatAt items c.1) = true := by
  obtain ⟨k, hk⟩ := List.mem_iff_getElem?.1 hc
  have h1 := choice_step hk (badC_take h k)
  rw [badC_take h (k + 1)] at h1
  by_cases hx : findP (cs.take k) c.1 = none ∧ okChoice c.2 (whatAt items c.1) = true
  · exact hx.2
  · rw [if_neg hx] at h1
    cases h1
theorem go_not_clash {items cs : List Pi} (h : badI [] items = none) (hc : badC items [] cs = none) {k : Nat} {x : Pi} (hx : items[k]? = some x) : findP cs x.1 = some 4 → x.2 ≠ 4 := by
  intro h4 e
  have := choice_of hc (find_mem h4)
  unfold whatAt at this
  simp only at this
  rw [(what_of h hx).2, Option.getD_some, e] at this
  revert this
  decide
theorem ok_iff (d w : Int) : okChoice d w = true ↔ (0 ≤ d ∧ d ≤ 3 ∧ (w = 2 ∨ w = 3 ∨ w = 4)) ∨ (d = 4 ∧ (w = 2 ∨ w = 3)) := by
  unfold okChoice
  split
  · simp only [Bool.or_eq_true, decide_eq_true_eq]
    omega
  · split
    · simp only [Bool.or_eq_true, decide_eq_true_eq]
      omega
    · constructor
      · intro h; cases h
      · intro h; omega
theorem what_three {k : Int} (h : isWhatB k = true) (h1 : k ≠ 1) : k = 2 ∨ k = 3 ∨ k = 4 := by
  have := isWhat_range h
  omega
set_option maxRecDepth 100000 in
set_option maxHeartbeats 12800000 in
theorem rmake_any (hMS : MatchR) (iv : Option Addr) (il ic : Nat) (jv : Option Addr) (jl jc : Nat) (mo : Option Addr) (mc : Nat) (M : List Pm) (pr fo : Int) (ba fa : Bool) (ao : Option Addr) (ca : Nat) (items : List Pi) (co : Option Addr) (cc : Nat) (cs : List Pi) (w : World)
    (hM : ArgM w mo mc M) (hI : ArgP w ao ca items) (hC : ArgP w co cc cs) :
    Calls Tryd.prog 17 #[.slice ao items.length ca, profV (.slice iv il ic) (.slice jv jl jc) mo M.length mc pr fo ba fa, .slice co cs.length cc] w (MakePost (makeL ⟨fo, pr, ba, fun q => decide (progL M q ≠ [])⟩ items cs) w) := by
  have CF : Hid (∀ W p, Below w.heap.size w W → Calls Tryd.prog 30 #[.slice ao items.length ca, txt p] W fun r w' => r = .returned (.int .i64 (posI items p)) ∧ Below W.heap.size W w') := Lib.hid (fun W p hW => find_any ao ca items p W (hI.lay.below hW) hI.len)
  have CH : Hid (∀ W p, Below w.heap.size w W → Calls Tryd.prog 31 #[.slice co cs.length cc, txt p] W fun r w' => r = .returned (.int .i64 (posI cs p)) ∧ Below W.heap.size W w') := Lib.hid (fun W p hW => chosen_any co cc cs p W (hC.lay.below hW) hC.len)
  have CD : Hid (∀ W (i : Pi), Below w.heap.size w W → i.1.length ≤ 1048576 → (i.2 = 2 ∨ i.2 = 3 ∨ i.2 = 4) → (findP cs i.1 = some 4 → i.2 ≠ 4) → Calls Tryd.prog 32 #[itV i, profV (.slice iv il ic) (.slice jv jl jc) mo M.length mc pr fo ba fa, .slice co cs.length cc] W fun r w' => r = .returned (.int .i64 (settleL ⟨fo, pr, ba, fun q => decide (progL M q ≠ [])⟩ cs i)) ∧ Below W.heap.size W w') := Lib.hid (fun W i hW hp h1 h2 => does_any hMS iv il ic jv jl jc mo mc M pr fo ba fa i co cc cs W (hM.below hW) hp (hC.lay.below hW) hC.len h1 h2)
  have HI := Lib.hid hI
  have HC := Lib.hid hC
  have hlen := hI.len
  have hlem := hC.len
  obtain ⟨s, hs⟩ : ∃ s : Say, (⟨fo, pr, ba, fun q => decide (progL M q ≠ [])⟩ : Say) = s := ⟨_, rfl⟩
  rw [hs] at CD ⊢
  obtain ⟨n, hn⟩ : ∃ n, items.length = n := ⟨_, rfl⟩
  have HN := Lib.hid hn
  obtain ⟨m, hm⟩ : ∃ m, cs.length = m := ⟨_, rfl⟩
  have HMm := Lib.hid hm
  obtain ⟨nm, hnm⟩ : ∃ nm, M.length = nm := ⟨_, rfl⟩
  rw [hn] at CF hlen ⊢
  rw [hm] at CH CD hlem ⊢
  rw [hnm] at CD ⊢
  unfold itV profV at CD
  unfold txt at CF CH
  unfold profV
  have HP : Hid (makeL s items cs = makeR (badI [] items) (badC items [] cs) (doneL s cs items)) := Lib.hid (make_eq s items cs)
  obtain ⟨P, hP⟩ : ∃ P, makeL s items cs = P := ⟨_, rfl⟩
  rw [hP] at HP ⊢
  have A0 : Hid (Below w.heap.size w (w.alloc (.cells #[.slice iv il ic, .slice jv jl jc, .slice mo nm mc, .int .i64 pr, .int .i64 fo, .bool ba, .bool fa] 39))) := Lib.hid ((Below.refl _ _).alloc (Nat.le_refl _) _)
  have h0 : Hid (badI [] (items.take 0) = none) := Lib.hid rfl
  have hnz : (n : Int) ≤ 1048576 := by omega
  have hmz : (m : Int) ≤ 1048576 := by omega
  clear hMS hM hI hC hs hn hm hnm hP
  go_enter Tryd.func17, Tryd.ntmps17
  repeat (first | go_skip | go_guarded | go_step | go_upon)
  have hAr := heap_alloc_new w (.cells #[.slice iv il ic, .slice jv jl jc, .slice mo nm mc, .int .i64 pr, .int .i64 fo, .bool ba, .bool fa] 39)
  generalize w.alloc (.cells #[.slice iv il ic, .slice jv jl jc, .slice mo nm mc, .int .i64 pr, .int .i64 fo, .bool ba, .bool fa] 39) = wA at A0 hAr ⊢
  have HAr := Lib.hid hAr
  clear hAr
  have TR : Hid (∀ W, Below wA.heap.size wA W → Below w.heap.size w W) := Lib.hid (fun W hW => A0.out.trans (hW.mono A0.out.size))
  go_loopw [9] (fun s9 wr => ∃ k : Nat, s9 = .int .i64 k ∧ k ≤ n ∧ badI [] (items.take k) = none ∧ Below wA.heap.size wA wr) (fun s9 _ => n - (Go.RowKit.intOf s9).toNat)
  case atStart => exact ⟨0, rfl, Nat.zero_le _, h0.out, Below.refl _ _⟩
  case round =>
    obtain ⟨k, rfl, hk, ht, hb⟩ := hrel
    have HT := Lib.hid ht
    have HB := Lib.hid hb
    clear ht hb
    by_cases hlt : k < n
    · have hkz : (k : Int) < n := by omega
      obtain ⟨g, o, rfl, hg, hc⟩ := (HI.out.below (TR.out _ HB.out)).lay (by rw [HN.out]; omega)
      obtain ⟨⟨xp, xv⟩, hx⟩ : ∃ x, items[k]? = some x := ⟨items[k]'(by rw [HN.out]; exact hlt), List.getElem?_eq_getElem _⟩
      obtain ⟨a0, a1⟩ := hc k _ hx
      simp only at a0 a1
      unfold txt at a0
      have hstep := item_step hx HT.out
      simp only at hstep
      have hpos := pos_lt hx
      simp only at hpos
      have CX := Lib.hid (CF.out wr xp (TR.out _ HB.out))
      obtain ⟨J, hJ⟩ : ∃ J, posI items xp = J := ⟨_, rfl⟩
      rw [hJ] at hpos CX
      have HS : Hid ((¬ (1 ≤ xv ∧ xv ≤ 4) ∨ J < k → P = ([], k, 91)) ∧ (1 ≤ xv → xv ≤ 4 → ¬ J < k → badI [] (items.take (k + 1)) = none)) := Lib.hid ⟨fun h => by
        rw [if_neg (by
          rintro ⟨h1, h2⟩
          rcases h with h | h
          · exact h (isWhat_range h1)
          · exact hpos.1 h h2)] at hstep
        rw [HP.out, badI_stop hstep]
        rfl, fun h1 h2 h3 => by
        rw [hstep, if_pos]
        refine ⟨?_, ?_⟩
        · unfold isWhatB
          simp only [Bool.or_eq_true, decide_eq_true_eq]
          omega
        · apply Decidable.byContradiction
          intro hh
          exact h3 (hpos.2 hh)⟩
      clear hc hx hstep hpos hJ hg
      by_cases l1 : xv < 1
      · have HE := Lib.hid (HS.out.1 (.inl (by omega)))
        clear HS
        repeat (first | go_skip | go_guarded | go_step | go_upon)
        go_ret3
        exact ⟨none, 0, by rw [HE.out]; rfl, by rw [HE.out]; exact LayP.nil _ _, fun _ => rfl, by rw [HE.out]; exact Nat.le_refl _, TR.out _ HB.out⟩
      · by_cases l2 : 4 < xv
        · have HE := Lib.hid (HS.out.1 (.inl (by omega)))
          clear HS
          repeat (first | go_skip | go_guarded | go_step | go_upon)
          go_ret3
          exact ⟨none, 0, by rw [HE.out]; rfl, by rw [HE.out]; exact LayP.nil _ _, fun _ => rfl, by rw [HE.out]; exact Nat.le_refl _, TR.out _ HB.out⟩
        · repeat (first | go_skip | go_guarded | go_step | go_upon)
          refine CX.out.mono ?_
          rintro r w2 ⟨rfl, hb2⟩
          simp only []
          have B2 := Lib.hid (HB.out.trans (hb2.mono HB.out.size))
          clear hb2
          by_cases hJk : J < (k : Int)
          · have HE := Lib.hid (HS.out.1 (.inr hJk))
            clear HS
            repeat (first | go_skip | go_guarded | go_step | go_upon)
            go_ret3
            exact ⟨none, 0, by rw [HE.out]; rfl, by rw [HE.out]; exact LayP.nil _ _, fun _ => rfl, by rw [HE.out]; exact Nat.le_refl _, TR.out _ B2.out⟩
          · have HE := Lib.hid (HS.out.2 (by omega) (by omega) hJk)
            clear HS
            repeat (first | go_skip | go_guarded | go_step | go_upon)
            exact ⟨⟨k + 1, by go_num, by omega, HE.out, B2.out⟩, by simp [Go.RowKit.intOf]; omega⟩
    · obtain rfl : n = k := by omega
      have HBI : Hid (badI [] items = none) := Lib.hid (by
        have h := HT.out
        rw [List.take_of_length_le (by rw [HN.out]; exact Nat.le_refl _)] at h
        exact h)
      have h20 : Hid (badC items [] (cs.take 0) = none) := Lib.hid rfl
      clear HT h0
      have HB0 := HB
      clear HB
      repeat (first | go_skip | go_guarded | go_step | go_upon)
      go_loopw [10] (fun s10 wr => ∃ k : Nat, s10 = .int .i64 k ∧ k ≤ m ∧ badC items [] (cs.take k) = none ∧ Below wA.heap.size wA wr) (fun s10 _ => m - (Go.RowKit.intOf s10).toNat)
      case atStart => exact ⟨0, rfl, Nat.zero_le _, h20.out, HB0.out⟩
      case round =>
        obtain ⟨k, rfl, hk, ht, hb⟩ := hrel
        have HT := Lib.hid ht
        have HB := Lib.hid hb
        clear ht hb HB0
        by_cases hlt : k < m
        · have hkz : (k : Int) < m := by omega
          obtain ⟨g, o, rfl, hg, hc⟩ := (HC.out.below (TR.out _ HB.out)).lay (by rw [HMm.out]; omega)
          obtain ⟨⟨cp, cd⟩, hx⟩ : ∃ x, cs[k]? = some x := ⟨cs[k]'(by rw [HMm.out]; exact hlt), List.getElem?_eq_getElem _⟩
          obtain ⟨a0, a1⟩ := hc k _ hx
          have LC : Hid (∀ W, Below wr.heap.size wr W → W.cell? ⟨g, o + k * 2, none⟩ = some (txt cp) ∧ W.cell? ⟨g, o + k * 2 + 1, none⟩ = some (.int .i64 cd)) := Lib.hid (fun W hW => ⟨(hW.cell (p := ⟨g, o + k * 2, none⟩) hg).trans a0, (hW.cell (p := ⟨g, o + k * 2 + 1, none⟩) hg).trans a1⟩)
          simp only at a0 a1
          unfold txt at a0
          have hstep := choice_step hx HT.out
          simp only at hstep
          have hpos := pos_lt hx
          simp only at hpos
          have CX := Lib.hid (CF.out wr cp (TR.out _ HB.out))
          obtain ⟨J2, hJ2⟩ : ∃ J, posI cs cp = J := ⟨_, rfl⟩
          have CY : Hid (∀ W, Below wA.heap.size wA W → _) := Lib.hid (fun W hW => CH.out W cp (TR.out _ hW))
          rw [hJ2] at hpos CY
          obtain ⟨W0, hW0⟩ : ∃ x, whatAt items cp = x := ⟨_, rfl⟩
          rw [hW0] at hstep
          have HS : Hid ((okChoice cd W0 ≠ true ∨ J2 < k → P = ([], k, 130)) ∧ (okChoice cd W0 = true → ¬ J2 < k → badC items [] (cs.take (k + 1)) = none)) := Lib.hid ⟨fun h => by
            rw [if_neg (by
              rintro ⟨h2, h1⟩
              rcases h with h | h
              · exact h h1
              · exact hpos.1 h h2)] at hstep
            rw [HP.out, HBI.out, badC_stop hstep]
            rfl, fun h1 h3 => by
            rw [hstep, if_pos]
            refine ⟨?_, h1⟩
            apply Decidable.byContradiction
            intro hh
            exact h3 (hpos.2 hh)⟩
          have HJ : Hid ((posI items cp = -1 ∧ W0 = 0) ∨ (∃ (j : Nat) (v : Int), posI items cp = j ∧ items[j]? = some (cp, v) ∧ W0 = v ∧ (v = 1 ∨ v = 2 ∨ v = 3 ∨ v = 4))) := Lib.hid (by
            unfold posI
            unfold whatAt at hW0
            cases hp : posN items cp with
            | none =>
              rw [posN_none hp] at hW0
              exact .inl ⟨rfl, hW0.symm⟩
            | some j =>
              obtain ⟨v, a, b, -⟩ := posN_some hp
              rw [b] at hW0
              have := isWhat_range (what_of HBI.out a).1
              simp only at this
              exact .inr ⟨j, v, rfl, a, hW0.symm, by omega⟩)
          clear hc hx hstep hpos hJ2 hW0
          repeat (first | go_skip | go_guarded | go_step | go_upon)
          refine CX.out.mono ?_
          rintro r w2 ⟨rfl, hb2⟩
          simp only []
          have B2 := Lib.hid (HB.out.trans (hb2.mono HB.out.size))
          have hLC := LC.out w2 hb2
          have hb2' := Lib.hid hb2
          clear hb2 a0 a1 hg
          obtain ⟨a0, a1⟩ := hLC
          unfold txt at a0
          rcases HJ.out with ⟨hj, rfl⟩ | ⟨j, v, hj, hjx, rfl, hv⟩
          · rw [hj]
            have HE := Lib.hid (HS.out.1 (.inl (by rw [ne_eq, ok_iff]; omega)))
            clear HS hj HJ
            repeat (first | go_skip | go_guarded | go_step | go_upon)
            go_ret3
            exact ⟨none, 0, by rw [HE.out]; rfl, by rw [HE.out]; exact LayP.nil _ _, fun _ => rfl, by rw [HE.out]; exact Nat.le_refl _, TR.out _ B2.out⟩
          · rw [hj]
            have hjl : j < items.length := (List.getElem?_eq_some_iff.1 hjx).1
            obtain ⟨g1, o1, rfl, hg1, hc1⟩ := (HI.out.below (TR.out _ B2.out)).lay (by omega)
            obtain ⟨d0, d1⟩ := hc1 j _ hjx
            have LD : Hid (∀ W, Below w2.heap.size w2 W → W.cell? ⟨g1, o1 + j * 2 + 1, none⟩ = some (.int .i64 W0)) := Lib.hid (fun W hW => (hW.cell (p := ⟨g1, o1 + j * 2 + 1, none⟩) hg1).trans d1)
            simp only at d0 d1
            rw [HN.out] at hjl
            have hjz : (j : Int) < n := by omega
            have hj0 : (0 : Int) ≤ (j : Nat) := by omega
            clear hc1 hjx hj HJ d0 hg1
            by_cases v1 : W0 = 1
            · subst v1
              have HE := Lib.hid (HS.out.1 (.inl (by rw [ne_eq, ok_iff]; omega)))
              clear HS
              repeat (first | go_skip | go_guarded | go_step | go_upon)
              go_ret3
              exact ⟨none, 0, by rw [HE.out]; rfl, by rw [HE.out]; exact LayP.nil _ _, fun _ => rfl, by rw [HE.out]; exact Nat.le_refl _, TR.out _ B2.out⟩
            · have z1 : (W0 == 1) = false := by simpa using v1
              by_cases l1 : cd < 0
              · have HE := Lib.hid (HS.out.1 (.inl (by rw [ne_eq, ok_iff]; omega)))
                clear HS v1
                repeat (first | go_skip | go_guarded | go_step | go_upon)
                go_ret3
                exact ⟨none, 0, by rw [HE.out]; rfl, by rw [HE.out]; exact LayP.nil _ _, fun _ => rfl, by rw [HE.out]; exact Nat.le_refl _, TR.out _ B2.out⟩
              · by_cases l2 : 4 < cd
                · have HE := Lib.hid (HS.out.1 (.inl (by rw [ne_eq, ok_iff]; omega)))
                  clear HS v1
                  repeat (first | go_skip | go_guarded | go_step | go_upon)
                  go_ret3
                  exact ⟨none, 0, by rw [HE.out]; rfl, by rw [HE.out]; exact LayP.nil _ _, fun _ => rfl, by rw [HE.out]; exact Nat.le_refl _, TR.out _ B2.out⟩
                · have V1 := Lib.hid v1
                  clear v1
                  repeat (first | go_skip | go_guarded | go_step | go_upon)
                  refine (CY.out w2 B2.out).mono ?_
                  rintro r w3 ⟨rfl, hb3⟩
                  simp only []
                  have B3 := Lib.hid (B2.out.trans (hb3.mono B2.out.size))
                  have hLC := LC.out w3 (hb2'.out.trans (hb3.mono hb2'.out.size))
                  have d3 := LD.out w3 hb3
                  clear hb3 a0 a1 d1
                  obtain ⟨a0, a1⟩ := hLC
                  unfold txt at a0
                  by_cases hJk : J2 < (k : Int)
                  · have HE := Lib.hid (HS.out.1 (.inr hJk))
                    clear HS
                    repeat (first | go_skip | go_guarded | go_step | go_upon)
                    go_ret3
                    exact ⟨none, 0, by rw [HE.out]; rfl, by rw [HE.out]; exact LayP.nil _ _, fun _ => rfl, by rw [HE.out]; exact Nat.le_refl _, TR.out _ B3.out⟩
                  · by_cases d4 : cd = 4
                    · subst d4
                      by_cases v4 : W0 = 4
                      · subst v4
                        have HE := Lib.hid (HS.out.1 (.inl (by rw [ne_eq, ok_iff]; omega)))
                        clear HS
                        repeat (first | go_skip | go_guarded | go_step | go_upon)
                        go_ret3
                        exact ⟨none, 0, by rw [HE.out]; rfl, by rw [HE.out]; exact LayP.nil _ _, fun _ => rfl, by rw [HE.out]; exact Nat.le_refl _, TR.out _ B3.out⟩
                      · have z4 : (W0 == 4) = false := by simpa using v4
                        have HE := Lib.hid (HS.out.2 (by rw [ok_iff]; have := V1.out; omega) hJk)
                        clear HS v4
                        repeat (first | go_skip | go_guarded | go_step | go_upon)
                        exact ⟨⟨k + 1, by go_num, by omega, HE.out, B3.out⟩, by simp [Go.RowKit.intOf]; omega⟩
                    · have z4 : (cd == 4) = false := by simpa using d4
                      have HE := Lib.hid (HS.out.2 (by rw [ok_iff]; have := V1.out; omega) hJk)
                      clear HS d4
                      repeat (first | go_skip | go_guarded | go_step | go_upon)
                      exact ⟨⟨k + 1, by go_num, by omega, HE.out, B3.out⟩, by simp [Go.RowKit.intOf]; omega⟩
        · obtain rfl : m = k := by omega
          have HBC : Hid (badC items [] cs = none) := Lib.hid (by
            have h := HT.out
            rw [List.take_of_length_le (by rw [HMm.out]; exact Nat.le_refl _)] at h
            exact h)
          have HP : Hid (P = (doneL s cs items, 0, 0)) := Lib.hid (by rw [HP.out, HBI.out, HBC.out]; rfl)
          clear HT h20 CF CH
          repeat (first | go_skip | go_guarded | go_step | go_upon)
          obtain ⟨ws, hws⟩ : ∃ W, wr = W := ⟨_, rfl⟩
          rw [hws] at HB ⊢
          have BS : Hid (Below w.heap.size w ws) := Lib.hid (TR.out _ HB.out)
          have HPB : Hid (ws.heap[w.heap.size]? = some (.cells #[.slice iv il ic, .slice jv jl jc, .slice mo nm mc, .int .i64 pr, .int .i64 fo, .bool ba, .bool fa] 39 (0, 0))) := Lib.hid (row_below HAr.out HB.out)
          have h0 : Hid (MIn s cs items ws ws (.slice none 0 0) 0) := Lib.hid ⟨World.ownsRow_nil _ _ _ _, Below.refl _ _⟩
          clear hws HB
          go_loopw [12, 13] (fun s12 s13 wr => ∃ k : Nat, s13 = .int .i64 k ∧ k ≤ n ∧ MIn s cs items ws wr s12 k) (fun _ s13 _ => n - (Go.RowKit.intOf s13).toNat)
          case atStart => exact ⟨0, rfl, Nat.zero_le _, h0.out⟩
          case round =>
            obtain ⟨k, rfl, hk, ho, hb⟩ := hrel
            have HO := Lib.hid ho
            have HB := Lib.hid hb
            clear ho hb
            by_cases hlt : k < n
            · have hkz : (k : Int) < n := by omega
              obtain ⟨g, o, rfl, hg, hc⟩ := (HI.out.below (BS.out.trans (HB.out.mono BS.out.size))).lay (by rw [HN.out]; omega)
              obtain ⟨⟨p, v⟩, hx⟩ : ∃ x, items[k]? = some x := ⟨items[k]'(by rw [HN.out]; exact hlt), List.getElem?_eq_getElem _⟩
              have hps : p.length ≤ 1048576 := HI.out.small (p, v) (List.mem_of_getElem? hx)
              obtain ⟨a0, a1⟩ := hc k _ hx
              simp only at a0 a1
              unfold txt at a0
              have HX := Lib.hid (done_step s cs items hx)
              have HPs := Lib.hid hps
              have H4 := Lib.hid (go_not_clash HBI.out HBC.out hx)
              have HV := Lib.hid (what_of HBI.out hx).1
              simp only at H4 HV
              clear hc hx hps
              by_cases h1 : v = 1
              · subst h1
                have HN1 : Hid (MIn s cs items ws wr u12 (k + 1)) := Lib.hid ⟨by rw [HX.out, if_pos rfl, List.append_nil]; exact HO.out, HB.out⟩
                repeat (first | go_skip | go_guarded | go_step | go_upon)
                exact ⟨⟨k + 1, by go_num, by omega, HN1.out⟩, by simp [Go.RowKit.intOf]; omega⟩
              · have z1 : (v == 1) = false := by simpa using h1
                have HX2 : Hid (doneL s cs (items.take (k + 1)) = doneL s cs (items.take k) ++ [(p, settleL s cs (p, v))]) := Lib.hid (by rw [HX.out, if_neg h1])
                have H3 := Lib.hid (what_three HV.out h1)
                clear h1 HX
                repeat (first | go_skip | go_guarded | go_step | go_upon)
                obtain ⟨F, hF⟩ : ∃ F, settleL s cs (p, v) = F := ⟨_, rfl⟩
                have C5 := CD.out wr.drew (p, v) ((BS.out.trans (HB.out.mono BS.out.size)).drew) HPs.out H3.out H4.out
                simp only [hF] at C5
                rw [hF] at HX2
                have HC5 := Lib.hid C5
                have h8 := row_below HPB.out HB.out
                clear C5 hF
                have hgw : g < wr.heap.size := hg
                refine wp_region_noPanic ?_
                with_reducible refine QT.region_mix (S := fun W' => W'.heap[w.heap.size]? = some (.cells #[.slice iv il ic, .slice jv jl jc, .slice mo nm mc, .int .i64 pr, .int .i64 fo, .bool ba, .bool fa] 39 (0, 0)) ∧ (W'.cell? ⟨g, o + k * 2, none⟩ = some (.string ⟨p.toArray⟩) ∧ W'.cell? ⟨g, o + k * 2 + 1, none⟩ = some (.int .i64 v))) [(true, 0), (true, 1), (true, 2), (true, 3), (true, 4), (true, 5), (true, 6), (true, 7), (true, 8), (true, 9), (true, 10), (true, 11), (false, 12), (true, 13), (false, 14)] 15 (by kernel_rfl) (by kernel_rfl) ?_ ?_ ?_
                · exact fun _ _ _ _ _ h => h
                · exact ⟨h8, a0, a1⟩
                intro _
                simp only [QT.pickM, List.filterMap_cons, List.filterMap_nil, List.getElem?_cons_succ, List.getElem?_cons_zero, Option.map_some, List.drop_succ_cons, List.drop_zero]
                iterate 12 (refine QT.wpMix_take _ (by rfl) (by intro w' hSw; obtain ⟨x0, x1, x2, x3, x4, x5, x6⟩ := cells7 hSw.1; obtain ⟨y0, y1⟩ := hSw.2; go_simp; first | done | rfl) ?_; try simp only [Act.put, List.setIfInBounds_toArray, List.set_cons_zero, List.set_cons_succ])
                intro K' hK
                rw [if_pos (by rfl)]
                go_simp
                refine HC5.out.mono ?_
                rintro r w5 ⟨rfl, hb5⟩
                simp only []
                have HB5 : Hid (Below wr.heap.size wr w5) := Lib.hid ((Below.refl _ _).drew.trans hb5)
                clear hb5
                have a05 := (HB5.out.cell (p := ⟨g, o + k * 2, none⟩) hgw).trans a0
                have a15 := (HB5.out.cell (p := ⟨g, o + k * 2 + 1, none⟩) hgw).trans a1
                refine hK.out _ _ ⟨row_below h8 HB5.out, a05, a15⟩ ?_
                clear hK K'
                try simp only [Act.put, List.setIfInBounds_toArray, List.set_cons_zero, List.set_cons_succ]
                refine QT.wpMix_take _ (by rfl) (by intro w' hSw; go_simp; first | done | rfl) ?_
                try simp only [Act.put, List.setIfInBounds_toArray, List.set_cons_zero, List.set_cons_succ]
                intro K' hK
                rw [if_pos (by rfl)]
                go_simp
                refine hK.out _ _ ⟨row_below (row_below h8 HB5.out) ((Below.refl _ _).alloc (Nat.le_refl _) _), (((Below.refl w5.heap.size w5).alloc (Nat.le_refl _) _).cell (p := ⟨g, o + k * 2, none⟩) (Nat.lt_of_lt_of_le hgw HB5.out.size)).trans a05, (((Below.refl w5.heap.size w5).alloc (Nat.le_refl _) _).cell (p := ⟨g, o + k * 2 + 1, none⟩) (Nat.lt_of_lt_of_le hgw HB5.out.size)).trans a15⟩ ?_
                clear hK K'
                try simp only [Act.put, List.setIfInBounds_toArray, List.set_cons_zero, List.set_cons_succ]
                refine QT.wpMix_nil ?_
                have HO5 := Lib.hid (owns_below HO.out HB5.out)
                have HBw := Lib.hid (HB.out.trans (HB5.out.mono HB.out.size))
                have hbs5 := HBw.out.size
                have HDl : Hid ((doneL s cs (items.take k)).length ≤ 1048576) := Lib.hid (by
                  have := done_len s cs (items.take k)
                  rw [List.length_take, HN.out] at this
                  omega)
                obtain ⟨i0, hi, hz0, hz1, hz2⟩ := info_parts infoC
                clear h8 a0 a1 a05 a15
                repeat (first
                  | (at_builtin; refine wpList_append_own _ rfl _ _ 40 rfl ws.heap.size 51 i0 (.agg #[.string ⟨#[]⟩, .int .i64 0]) 2 24 Tryd.underlying40 hi hz0 hz1 hz2 rfl (by decide) _ _ _ rfl (HO5.out.alloc _) ⟨w5.heap.size, 0, none⟩ 1 1 [.string ⟨p.toArray⟩, .int .i64 F] rfl rfl (two_new _ _ _ _) (by simp [Value.oneCell']) (by have := HDl.out; unfold maxLen; omega) (by have := HDl.out; omega) (by simp; omega) ?_; intro v' w6 ho6 hg6 _; have HO6 := Lib.hid ho6; have HB6 := Lib.hid ((HBw.out.alloc hbs5 _).grown hg6 (by simp; omega) (fun j hj => (HO5.out.lt j hj).1)); clear ho6 hg6)
                  | go_skip | go_guarded | go_step | go_upon)
                refine NoPanic.normal ?_
                have HN1 : Hid (MIn s cs items ws w6 v' (k + 1)) := Lib.hid ⟨by
                  rw [HX2.out, plC_snoc, List.length_append]
                  exact HO6.out, HB6.out⟩
                repeat (first | go_skip | go_guarded | go_step | go_upon)
                exact ⟨⟨k + 1, by go_num, by omega, HN1.out⟩, by simp [Go.RowKit.intOf]; omega⟩
            · obtain rfl : n = k := by omega
              have ht : items.take n = items := by rw [← HN.out]; exact List.take_length
              have ho := HO.out
              rw [ht] at ho
              obtain ⟨ao, c, rfl, hl⟩ := lay_pl ho
              have hac : Hid ((ao = none → c = 0) ∧ (doneL s cs items).length ≤ c) := Lib.hid (by
                rcases ho.2 with ⟨e1, e2⟩ | ⟨g, cap, cur, e1, _, _, hcap, _, _⟩
                · injection e1 with e1 e3 e4
                  subst e1
                  exact ⟨fun _ => e4, by omega⟩
                · injection e1 with e1 e3 e4
                  subst e1
                  rw [e4]
                  exact ⟨(fun e => by cases e), hcap⟩)
              have HL := Lib.hid hl
              clear ho ht hl
              repeat (first | go_skip | go_guarded | go_step | go_upon)
              go_ret3
              refine ⟨ao, c, by rw [HP.out]; rfl, by rw [HP.out]; exact HL.out, hac.out.1, by rw [HP.out]; exact hac.out.2, BS.out.trans (HB.out.mono BS.out.size)⟩
end PR
end Go.Proofs.YtechekdiadpmoaaDoor
end
