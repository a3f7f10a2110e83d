/- The document's parts over lists, and that they are what the code's matching says, if a part is. -/
import Derived.Test.YtkfddnkeoopfbaaDoorGlobPlain
import Derived.Test.YtkfddnkeoopfbaaDoorRef2Part
import Derived.Deep.RegionHeld3
import Derived.Deep.RegionWith
namespace Go.Proofs.YtkfddnkeoopfbaaDoor
open Go.RowKit Go.Lib
namespace RG
open GP
/-- Each part as it is read. -/
inductive Reads : List (List UInt8) → List Pt → Prop
  | nil : Reads [] []
  | cons {t : List UInt8} {p : Pt} {ts : List (List UInt8)} {ps : List Pt} (h : ptL t = .ok p) (r : Reads ts ps) : Reads (t :: ts) (p :: ps)
theorem reads_of : ∀ (ts : List (List UInt8)) (a : Nat) (acc r : List Pt), psR ts a acc = .ok r → ∃ ps, r = acc ++ ps ∧ Reads ts ps
  | [], a, acc, r, h => by
    rw [psR] at h
    cases h
    exact ⟨[], by simp, .nil⟩
  | t :: ts, a, acc, r, h => by
    rw [psR] at h
    cases hp : ptL t with
    | error k => rw [hp] at h; cases h
    | ok p =>
      rw [hp] at h
      obtain ⟨ps, h1, h2⟩ := reads_of ts _ _ _ h
      exact ⟨p :: ps, by rw [h1]; simp, .cons hp h2⟩
/-- The reference's parts, from what it says of one part. -/
def rpL (PT : List UInt8 → List UInt8 → Bool) : List (List UInt8) → List (List UInt8) → Bool
  | [] => fun ns => ns.isEmpty
  | p :: ps => if p = [42, 42] then anyTail (rpL PT ps) else fun ns => match ns with
    | [] => false
    | n :: ns' => PT p n && rpL PT ps ns'
theorem pt_stars {t : List UInt8} (h : ptL t = .ok .stars) : t = [42, 42] := by
  unfold ptL at h
  split at h
  · cases h
  · split at h
    · assumption
    · split at h <;> cases h
theorem pt_one {t : List UInt8} {els : List El} (h : ptL t = .ok (.one els)) : t ≠ [42, 42] := by
  rintro rfl
  unfold ptL at h
  rw [if_neg (by simp), if_pos rfl] at h
  cases h
theorem rp_mat {PT : List UInt8 → List UInt8 → Bool} {ts : List (List UInt8)} {ps : List Pt} (hr : Reads ts ps) (hPT : ∀ t els, t ∈ ts → ptL t = .ok (.one els) → ∀ n, PT t n = fitsL els n) : rpL PT ts = mat ps := by
  induction hr with
  | nil => rfl
  | cons h r ih =>
    rename_i t p ts ps
    have ih2 := ih (fun t els ht => hPT t els (by simp [ht]))
    cases p with
    | stars =>
      rw [rpL, if_pos (pt_stars h), ih2]
      rfl
    | one els =>
      rw [rpL, if_neg (pt_one h), ih2]
      funext ns
      cases ns with
      | nil => rfl
      | cons n ns' =>
        show (PT t n && mat ps ns') = (fitsL els n && mat ps ns')
        rw [hPT t els (by simp) h n]
end RG
end Go.Proofs.YtkfddnkeoopfbaaDoor
namespace Go.Proofs.YtkfddnkeoopfbaaDoor
open Go.RowKit Go.Lib
namespace RO
open GP LitN RG GR GH

/-- A row of texts as it is handed on: where it lies, and how much room it has. -/
structure RowAt (W : World) (ao : Option Addr) (c : Nat) (xs : List ByteArray) : Prop where
  len : xs.length ≤ c
  nil : ao = none → xs = [] ∧ c = 0
  at_ : StrsAt W ao xs
def tailOf (ao : Option Addr) (c k : Nat) : Option Addr := match ao with
  | none => none
  | some a => if c = k then some a else some (a.add k)
theorem RowAt.tail {W W' : World} {a : Addr} {c : Nat} {xs : List ByteArray} (h : RowAt W (some a) c xs) (hb : Below W.heap.size W W') (k : Nat) (hk : k ≤ xs.length) : RowAt W' (if c = k then some a else some (a.add k)) (c - k) (xs.drop k) := by
  refine ⟨by have := h.len; rw [List.length_drop]; omega, fun h => (by split at h <;> cases h), fun h0 => ?_⟩
  rw [List.length_drop] at h0
  obtain ⟨g, o, e, hg, hcell⟩ := h.at_ (by omega)
  simp only [Option.some.injEq] at e
  subst e
  have := h.len
  refine ⟨g, o + k, by rw [if_neg (by omega), add_off], Nat.lt_of_lt_of_le hg hb.size, fun j x hj => ?_⟩
  rw [List.getElem?_drop] at hj
  have h1 := hcell (k + j) x hj
  rw [← Nat.add_assoc] at h1
  rw [hb.cell (p := ⟨g, o + k + j, none⟩) hg]
  exact h1
theorem RowAt.below {W W' : World} {ao : Option Addr} {c : Nat} {xs : List ByteArray} (h : RowAt W ao c xs) (hb : Below W.heap.size W W') : RowAt W' ao c xs :=
  ⟨h.len, h.nil, fun h0 => by
    obtain ⟨g, o, e, hg, hcell⟩ := h.at_ h0
    exact ⟨g, o, e, Nat.lt_of_lt_of_le hg hb.size, fun j x hj => by rw [hb.cell (p := ⟨g, o + j, none⟩) hg]; exact hcell j x hj⟩⟩
def PartsAt (tl : List (List UInt8)) (ps : List Pt) : Prop := ∀ (ap an : Option Addr) (cp cn : Nat) (ts xs : List ByteArray) (W : World), ts.map (·.data.toList) = tl → RowAt W ap cp ts → RowAt W an cn xs → ts.length ≤ 1000 → xs.length ≤ 1000 →
  (∀ t ∈ ts, Lib.validD t.data.toList = true ∧ t.size ≤ 400 ∧ 47 ∉ t.data.toList) → (∀ x ∈ xs, Lib.validD x.data.toList = true ∧ x.size ≤ 400) →
  Calls Tryd.prog 20 #[.slice ap ts.length cp, .slice an xs.length cn] W (PartPost (mat ps (xs.map (·.data.toList))) W)
theorem parts_nil : PartsAt [] [] := by
  intro ap an cp cn ts xs W ht hp hn ht4 hx4 _ _
  have h0 : ts = [] := by simpa using ht
  subst h0
  have hf : (((xs.length : Nat) : Int) == 0) = mat [] (xs.map (·.data.toList)) := by
    cases xs with
    | nil => rfl
    | cons y r => rfl
  have HF := Lib.hid hf
  clear ht hp hn hf
  go_enter Tryd.func20, Tryd.ntmps20
  go_wp2_with fail
  go_ret
  exact ⟨by rw [← HF.out]; rfl, Below.refl _ _⟩
set_option maxRecDepth 100000 in
set_option maxHeartbeats 6400000 in
theorem parts_stars {tl : List (List UInt8)} {ps : List Pt} (ih : PartsAt tl ps) : PartsAt ([42, 42] :: tl) (.stars :: ps) := by
  intro ap an cp cn ts xs W ht hp hn ht4 hx4 hvt hvx
  obtain ⟨t0, ts', rfl⟩ : ∃ t0 ts', ts = t0 :: ts' := by
    cases ts with
    | nil => simp at ht
    | cons t0 ts' => exact ⟨t0, ts', rfl⟩
  rw [List.map_cons] at ht
  simp only [List.cons.injEq] at ht
  obtain ⟨ht0, ht'⟩ := ht
  have hb22 : (t0.toList == [42, 42]) = true := by rw [Lib.toList_data, ht0]; rfl
  obtain ⟨gp, op, rfl, hgp, hcp⟩ := hp.at_ (by simp)
  have c0 := hcp 0 t0 rfl
  rw [Nat.add_zero] at c0
  have hlp : (t0 :: ts').length = ts'.length + 1 := rfl
  have hlz : (0 : Int) < ts'.length + 1 := by omega
  have hl1 : (1 : Int) ≤ ts'.length + 1 := by omega
  have hl0 : ((ts'.length : Int) + 1 == 0) = false := beq_eq_false_iff_ne.2 (by omega)
  have hmat : mat (.stars :: ps) (xs.map (·.data.toList)) = anyTail (mat ps) (xs.map (·.data.toList)) := rfl
  rw [hmat, hlp]
  obtain ⟨R, hR⟩ : ∃ R, anyTail (mat ps) (xs.map (·.data.toList)) = R := ⟨_, rfl⟩
  rw [hR]
  have HR := Lib.hid hR
  have HT := Lib.hid ht'
  have HVT : Hid (∀ t ∈ ts', Lib.validD t.data.toList = true ∧ t.size ≤ 400 ∧ 47 ∉ t.data.toList) := Lib.hid fun t h => hvt t (by simp [h])
  have HVX := Lib.hid hvx
  have HPR := Lib.hid hp
  have hcpl := hp.len
  rw [hlp] at hcpl
  have cP := fun (j : Nat) (an' : Option Addr) (c' : Nat) (W' : World) (hB : Below W.heap.size W W') (hn' : RowAt W' an' c' (xs.drop j)) =>
    ih (if cp = 1 then some ⟨gp, op, none⟩ else some ((⟨gp, op, none⟩ : Addr).add 1)) an' (cp - 1) c' ts' (xs.drop j) W' HT.out (by have h := HPR.out.tail hB 1 (by simp); exact h) hn' (by omega) (by rw [List.length_drop]; omega) HVT.out (fun x hx => HVX.out x (List.mem_of_mem_drop hx))
  rw [add_off] at cP
  rcases an with _ | ad
  · obtain ⟨rfl, rfl⟩ := hn.nil rfl
    have cQ : ∀ W', Below W.heap.size W W' → Calls Tryd.prog 20 #[.slice (if cp = 1 then some ⟨gp, op, none⟩ else some ⟨gp, op + 1, none⟩) ts'.length (cp - 1), .slice none 0 0] W' (PartPost R W') := fun W' hB => by
      have h := cP 0 none 0 W' hB (hn.below hB)
      rw [show mat ps ((([] : List ByteArray).drop 0).map (·.data.toList)) = R from HR.out] at h
      exact h
    clear hn hR hp hcp ht' hvt hvx ht0 cP hmat hlp
    go_enter Tryd.func20, Tryd.ntmps20
    go_wp2_with fail
    go_loopw [5] (fun s5 wr => ∃ k : Nat, k ≤ 1 ∧ s5 = .int .i64 k ∧ (k = 1 → R = false) ∧ Below W.heap.size W wr) (fun s5 _ => 1 - (Go.RowKit.intOf s5).toNat)
    case atStart => exact ⟨0, by omega, rfl, (fun h => by omega), Below.refl _ _⟩
    case round =>
      obtain ⟨k, hk, rfl, hor, hb⟩ := hrel
      have HB := Lib.hid hb
      clear hb
      by_cases hk0 : k = 0
      · subst hk0
        clear hor
        have cX : ∀ d os, Calls Tryd.prog 20 #[.slice (if cp = 1 then some ⟨gp, op, none⟩ else some ⟨gp, op + 1, none⟩) ts'.length (cp - 1), .slice none 0 0] (Go.Sort.grow (redrawn wr d) os) fun e w'' => e = .returned (.bool R) ∧ ∃ p : Regrown, w'' = Go.Sort.grow (redrawn wr p.d) p.os := fun d os => Calls.regrown_of (cQ _ (HB.out.trans ((below_regrown wr d os).mono HB.out.size)))
        cases R
        · go_wp2_with fail
          with_reducible refine wp_region_quiet_below (by kernel_rfl) (by kernel_rfl) ?_
          repeat (go_big_quiet_step (first | (go_at_call_of 20 (Value.slice none 0 0); exact cX _ _)))
          refine wpQuiet_nil ?_
          intro _ hw'
          obtain ⟨⟨dq, osq⟩, hw''⟩ := hw'
          subst hw''
          go_wp2_with fail
          all_goals
            go_roundw
            case rel => exact ⟨1, by omega, by go_num, fun _ => by first | rfl | trivial, HB.out.trans ((below_regrown wr dq osq).mono HB.out.size)⟩
            case measure => simp [Go.RowKit.intOf]
        · go_wp2_with fail
          with_reducible refine wp_region_quiet_below (by kernel_rfl) (by kernel_rfl) ?_
          repeat (go_big_quiet_step (first | (go_at_call_of 20 (Value.slice none 0 0); exact cX _ _)))
          refine wpQuiet_nil ?_
          intro _ hw'
          obtain ⟨⟨dq, osq⟩, hw''⟩ := hw'
          subst hw''
          go_wp2_with fail
          all_goals
            go_ret
            exact ⟨rfl, HB.out.trans ((below_regrown wr dq osq).mono HB.out.size)⟩
      · obtain rfl : k = 1 := by omega
        have hRf := hor rfl
        subst hRf
        go_wp2_with fail
        go_ret
        exact ⟨rfl, HB.out⟩
  · have cQ : ∀ (k : Nat) (W' : World), k ≤ xs.length → Below W.heap.size W W' → Calls Tryd.prog 20 #[.slice (if cp = 1 then some ⟨gp, op, none⟩ else some ⟨gp, op + 1, none⟩) ts'.length (cp - 1), .slice (if cn = k then some ad else some (ad.add k)) (xs.length - k) (cn - k)] W' (PartPost (mat ps ((xs.drop k).map (·.data.toList))) W') := fun k W' hk hB => by
      have h := cP k _ _ W' hB (hn.tail hB k hk)
      rw [List.length_drop] at h
      exact h
    have hcnl := hn.len
    clear hn hR hp hcp ht' hvt hvx ht0 cP hmat hlp
    go_enter Tryd.func20, Tryd.ntmps20
    go_wp2_with fail
    go_loopw [5] (fun s5 wr => ∃ k : Nat, s5 = .int .i64 k ∧ ((k ≤ xs.length ∧ anyTail (mat ps) ((xs.drop k).map (·.data.toList)) = R) ∨ (k = xs.length + 1 ∧ R = false)) ∧ Below W.heap.size W wr) (fun s5 _ => xs.length + 1 - (Go.RowKit.intOf s5).toNat)
    case atStart => exact ⟨0, rfl, .inl ⟨Nat.zero_le _, HR.out⟩, Below.refl _ _⟩
    case round =>
      obtain ⟨k, rfl, hor, hb⟩ := hrel
      have HB := Lib.hid hb
      clear hb
      rcases hor with ⟨hk, hany⟩ | ⟨rfl, rfl⟩
      · have hkz : (k : Int) ≤ xs.length := by omega
        have hnext : (mat ps ((xs.drop k).map (·.data.toList)) = true → R = true) ∧ (mat ps ((xs.drop k).map (·.data.toList)) = false → ((k + 1 ≤ xs.length ∧ anyTail (mat ps) ((xs.drop (k + 1)).map (·.data.toList)) = R) ∨ (k + 1 = xs.length + 1 ∧ R = false))) := by
          by_cases hkl : k < xs.length
          · have he : (xs.drop k).map (·.data.toList) = xs[k].data.toList :: (xs.drop (k + 1)).map (·.data.toList) := by rw [List.drop_eq_getElem_cons hkl]; rfl
            rw [he, anyTail, ← he] at hany
            constructor
            · intro h
              rw [h, Bool.true_or] at hany
              exact hany.symm
            · intro h
              rw [h, Bool.false_or] at hany
              exact .inl ⟨by omega, hany⟩
          · have he : xs.drop k = [] := List.drop_of_length_le (by omega)
            rw [he, List.map_nil, anyTail] at hany
            rw [he, List.map_nil, hany]
            exact ⟨id, fun h => .inr ⟨by omega, h⟩⟩
        have cX : ∀ d os, Calls Tryd.prog 20 #[.slice (if cp = 1 then some ⟨gp, op, none⟩ else some ⟨gp, op + 1, none⟩) ts'.length (cp - 1), .slice (if cn = k then some ad else some (ad.add k)) (xs.length - k) (cn - k)] (Go.Sort.grow (redrawn wr d) os) fun e w'' => e = .returned (.bool (mat ps ((xs.drop k).map (·.data.toList)))) ∧ ∃ p : Regrown, w'' = Go.Sort.grow (redrawn wr p.d) p.os := fun d os => Calls.regrown_of (cQ k _ hk (HB.out.trans ((below_regrown wr d os).mono HB.out.size)))
        generalize mat ps ((xs.drop k).map (·.data.toList)) = X at hnext cX
        clear hany
        cases X
        · have HNx := Lib.hid (hnext.2 rfl)
          clear hnext
          go_wp2_with fail
          with_reducible refine wp_region_quiet_below (by kernel_rfl) (by kernel_rfl) ?_
          repeat (go_big_quiet_step (first | (go_at_call_of 20 (Value.slice (if cn = k then some ad else some (ad.add k)) (xs.length - k) (cn - k)); exact cX _ _)))
          refine wpQuiet_nil ?_
          intro _ hw'
          obtain ⟨⟨dq, osq⟩, hw''⟩ := hw'
          subst hw''
          go_wp2_with fail
          all_goals
            go_roundw
            case rel => exact ⟨k + 1, by go_num, HNx.out, HB.out.trans ((below_regrown wr dq osq).mono HB.out.size)⟩
            case measure => simp [Go.RowKit.intOf]; omega
        · have hRt := hnext.1 rfl
          subst hRt
          clear hnext
          go_wp2_with fail
          with_reducible refine wp_region_quiet_below (by kernel_rfl) (by kernel_rfl) ?_
          repeat (go_big_quiet_step (first | (go_at_call_of 20 (Value.slice (if cn = k then some ad else some (ad.add k)) (xs.length - k) (cn - k)); exact cX _ _)))
          refine wpQuiet_nil ?_
          intro _ hw'
          obtain ⟨⟨dq, osq⟩, hw''⟩ := hw'
          subst hw''
          go_wp2_with fail
          all_goals
            go_ret
            exact ⟨rfl, HB.out.trans ((below_regrown wr dq osq).mono HB.out.size)⟩
      · have hkz : ¬ ((xs.length : Int) + 1) ≤ xs.length := by omega
        go_wp2_with fail
        go_ret
        exact ⟨rfl, HB.out⟩
theorem pt_els {t : List UInt8} {els : List El} (h : ptL t = .ok (.one els)) : PtIs t els := by
  unfold ptL at h
  split at h
  · cases h
  · split at h
    · cases h
    · split at h
      · cases h
      · rename_i els' hp
        simp only [Except.ok.injEq, Pt.one.injEq] at h
        subst h
        obtain ⟨els2, h1, h2⟩ := pt_is _ t 0 [] els' (Nat.le_refl _) hp
        rw [List.nil_append] at h1
        rw [h1]
        exact h2
set_option maxRecDepth 100000 in
set_option maxHeartbeats 12800000 in
theorem parts_one {t : List UInt8} {els : List El} {tl : List (List UInt8)} {ps : List Pt} (hpt : ptL t = .ok (.one els)) (ih : PartsAt tl ps) : PartsAt (t :: tl) (.one els :: ps) := by
  intro ap an cp cn ts xs W ht hp hn ht4 hx4 hvt hvx
  obtain ⟨t0, ts', rfl⟩ : ∃ t0 ts', ts = t0 :: ts' := by
    cases ts with
    | nil => simp at ht
    | cons t0 ts' => exact ⟨t0, ts', rfl⟩
  rw [List.map_cons] at ht
  simp only [List.cons.injEq] at ht
  obtain ⟨ht0, ht'⟩ := ht
  have hb22 : (t0.toList == [42, 42]) = false := by
    rw [Lib.toList_data, ht0]
    simpa using pt_one hpt
  obtain ⟨gp, op, rfl, hgp, hcp⟩ := hp.at_ (by simp)
  have c0 := hcp 0 t0 rfl
  rw [Nat.add_zero] at c0
  have hlp : (t0 :: ts').length = ts'.length + 1 := rfl
  have hlz : (0 : Int) < ts'.length + 1 := by omega
  have hl1 : (1 : Int) ≤ ts'.length + 1 := by omega
  have hl0 : ((ts'.length : Int) + 1 == 0) = false := beq_eq_false_iff_ne.2 (by omega)
  rw [hlp]
  obtain ⟨hv0, hs0, h470⟩ := hvt t0 (by simp)
  have hPA : PartAt t els := part_any (pt_els hpt) (by rw [← ht0]; exact hv0) (by rw [← ht0]; exact h470)
  have HVT : Hid (∀ t ∈ ts', Lib.validD t.data.toList = true ∧ t.size ≤ 400 ∧ 47 ∉ t.data.toList) := Lib.hid fun t h => hvt t (by simp [h])
  cases xs with
  | nil =>
    clear hn hp hcp ht' hvt hvx ht0 hPA ih hv0 hs0 h470 hlp
    go_enter Tryd.func20, Tryd.ntmps20
    go_wp2_with fail
    with_reducible refine wp_region_quiet_below (by kernel_rfl) (by kernel_rfl) ?_
    repeat (go_big_quiet_step (fail))
    refine wpQuiet_nil ?_
    intro _ hw'
    obtain ⟨⟨dq, osq⟩, hw''⟩ := hw'
    subst hw''
    go_wp2_with fail
    go_ret
    exact ⟨rfl, below_regrown W dq osq⟩
  | cons x0 xs' =>
    obtain ⟨gn, on, rfl, hgn, hcn⟩ := hn.at_ (by simp)
    have d0 := hcn 0 x0 rfl
    rw [Nat.add_zero] at d0
    have hln : (x0 :: xs').length = xs'.length + 1 := rfl
    have hnz : (0 : Int) < xs'.length + 1 := by omega
    have hn1 : (1 : Int) ≤ xs'.length + 1 := by omega
    obtain ⟨hvx0, hsx0⟩ := hvx x0 (by simp)
    have HVX : Hid (∀ x ∈ xs', Lib.validD x.data.toList = true ∧ x.size ≤ 400) := Lib.hid fun x h => hvx x (by simp [h])
    have hmat : mat (.one els :: ps) ((x0 :: xs').map (·.data.toList)) = (fit els (runes x0.data.toList) && mat ps (xs'.map (·.data.toList))) := rfl
    rw [hln, hmat]
    have cR := fun W' => runes_any x0 W' (by omega)
    have hrl := runes_len x0.data.toList
    rw [← Lib.size_eq] at hrl
    have cPt : ∀ (ao : Option Addr) (c : Nat) (rx : List ByteArray) (W' : World), rx.map (·.data.toList) = rnL x0.data.toList → rx.length ≤ c → c ≤ maxLen → (ao = none → rx = [] ∧ c = 0) → StrsAt W' ao rx →
        Calls Tryd.prog 18 #[.string t0, .slice ao rx.length c] W' (PartPost (fit els (runes x0.data.toList)) W') := fun ao c rx W' h1 h2 h3 h4 h5 => by
      have he : EncOf rx (runes x0.data.toList) := by
        unfold EncOf
        rw [h1, rn_valid _ _ (Nat.le_refl _) hvx0]
      exact hPA t0 ao c rx _ W' ht0 hs0 he (runes_vr _ _ (Nat.le_refl _) hvx0) (by rw [he.len]; omega) h2 h3 h4 h5
    have cQ : ∀ W', Below W.heap.size W W' → Calls Tryd.prog 20 #[.slice (if cp = 1 then some ⟨gp, op, none⟩ else some ⟨gp, op + 1, none⟩) ts'.length (cp - 1), .slice (if cn = 1 then some ⟨gn, on, none⟩ else some ⟨gn, on + 1, none⟩) xs'.length (cn - 1)] W' (PartPost (mat ps (xs'.map (·.data.toList))) W') := fun W' hB => by
      have h1 := hp.tail hB 1 (by simp)
      have h2 := hn.tail hB 1 (by simp)
      rw [add_off] at h1 h2
      exact ih _ _ _ _ ts' xs' W' ht' h1 h2 (by simp at ht4; omega) (by simp at hx4; omega) HVT.out HVX.out
    have hcpl := hp.len
    have hcnl := hn.len
    rw [hlp] at hcpl
    rw [hln] at hcnl
    generalize fit els (runes x0.data.toList) = B1 at cPt ⊢
    generalize mat ps (xs'.map (·.data.toList)) = B2 at cQ ⊢
    have hsx := hsx0
    clear hn hp hcp hcn ht' hvt hvx ht0 hPA ih hv0 hs0 h470 hmat hrl hvx0 hsx0 hlp hln
    cases B1
    · exact parts_no t0 x0 gp op gn on ts'.length xs'.length cp cn W hb22 hgp hgn c0 d0 (by simp at ht4; omega) (by simp at hx4; omega) hsx cPt
    · by_cases hc1 : cp = 1 <;> by_cases hn1 : cn = 1
      all_goals
        first | (subst hc1; rw [if_pos rfl, show (1 : Nat) - 1 = 0 from rfl, show ts'.length = 0 by omega] at cQ) | rw [if_neg hc1] at cQ
        first | (subst hn1; rw [if_pos rfl, show (1 : Nat) - 1 = 0 from rfl, show xs'.length = 0 by omega] at cQ) | rw [if_neg hn1] at cQ
        go_enter Tryd.func20, Tryd.ntmps20
        go_wp2_with fail
        go_region_held3 (fun w' => w'.cell? ⟨gp, op, none⟩ = some (.string t0) ∧ w'.cell? ⟨gn, on, none⟩ = some (.string x0)) (first | exact ⟨c0, d0⟩ | exact ⟨k0, l0⟩ | exact ⟨k1, l1⟩ | exact ⟨k2, l2⟩) (first | (go_at_call 19; refine (cR _).mono ?_; rintro e w2 ⟨ao, cr, rx, rfl, q1, q2, q3, q4, q5, q6, hb⟩; have cPt2 := cPt ao cr rx w2 q4 q1 q3 q2 q6; have k0 := (hb.cell (p := ⟨gp, op, none⟩) hgp).trans c0; have l0 := (hb.cell (p := ⟨gn, on, none⟩) hgn).trans d0; have HB2 := Lib.hid (show Below W.heap.size W w2 from Below.trans (by repeat' (first | exact Below.refl _ _ | refine Below.drew ?_)) hb); clear q1 q2 q3 q4 q5 q6 hb) | (go_at_call 18; refine cPt2.mono ?_; rintro e w3 ⟨rfl, hb⟩; have k1 := (hb.cell (p := ⟨gp, op, none⟩) (Nat.lt_of_lt_of_le hgp HB2.out.size)).trans k0; have l1 := (hb.cell (p := ⟨gn, on, none⟩) (Nat.lt_of_lt_of_le hgn HB2.out.size)).trans l0; have HB3 := Lib.hid (HB2.out.trans (hb.mono HB2.out.size)); clear hb) | (go_at_call 20; refine (cQ _ HB3.out).mono ?_; rintro e w4 ⟨rfl, hb⟩; have k2 := (hb.cell (p := ⟨gp, op, none⟩) (Nat.lt_of_lt_of_le hgp HB3.out.size)).trans k1; have l2 := (hb.cell (p := ⟨gn, on, none⟩) (Nat.lt_of_lt_of_le hgn HB3.out.size)).trans l1; have HB4 := Lib.hid (HB3.out.trans (hb.mono HB3.out.size)); clear hb))
        all_goals
          go_wp2_with fail
          go_ret
          exact ⟨rfl, HB4.out⟩
theorem parts_any {tl : List (List UInt8)} {ps : List Pt} (h : Reads tl ps) : PartsAt tl ps := by
  induction h with
  | nil => exact parts_nil
  | cons h r ih =>
    rename_i t p tl ps
    cases p with
    | stars =>
      rw [pt_stars h]
      exact parts_stars ih
    | one els => exact parts_one h ih
end RO
end Go.Proofs.YtkfddnkeoopfbaaDoor
