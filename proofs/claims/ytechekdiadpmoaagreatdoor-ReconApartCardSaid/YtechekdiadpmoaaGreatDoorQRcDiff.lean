/- Layer 6: the contract of the program's Differ (cut of stage 6). -/
import Derived.Test.YtechekdiadpmoaaGreatDoorQRcWit
import Derived.Test.YtechekdiadpmoaaGreatDoorQArSame
import Derived.Test.YtechekdiadpmoaaGreatDoorQRcCat
import Derived.Test.YtechekdiadpmoaaGreatDoorQTreeSl
import Derived.Test.YtechekdiadpmoaaGreatDoorQBase
import Derived.Lib.QuietBelow
import Derived.Laws.AppendOwn
import Derived.Laws.OwnMore
import Derived.Laws.AppendOwnNone
set_option linter.all false
set_option maxRecDepth 100000
set_option maxHeartbeats 25600000
namespace Go.Proofs.YtechekdiadpmoaaGreatDoor
open Go.RowKit Go.Lib Go.BigFrame
namespace TP
open NP
theorem diff_left (a : List Nd) : diffM a [] = a.map (·.path) := by
  cases a with
  | nil => rw [diffM]
  | cons x a => rw [diffM]
theorem diff_right (b : List Nd) : diffM [] b = b.map (·.path) := by rw [diffM]
theorem diff_len : ∀ (a b : List Nd), (diffM a b).length ≤ a.length + b.length
  | [], b => by rw [diff_right, List.length_map]; simp
  | x :: a, [] => by rw [diff_left, List.length_map]; simp
  | x :: a, y :: b => by
    rw [diffM]
    split
    · have := diff_len a (y :: b)
      simp only [List.length_cons] at this ⊢; omega
    · split
      · have := diff_len (x :: a) b
        simp only [List.length_cons] at this ⊢; omega
      · split
        · have := diff_len a b
          simp only [List.length_cons] at this ⊢; omega
        · have := diff_len a b
          simp only [List.length_cons] at this ⊢; omega
  termination_by a b => a.length + b.length
theorem drop_at {l : List Nd} {k : Nat} {x : Nd} (h : l[k]? = some x) : l.drop k = x :: l.drop (k + 1) := by
  have hk := (List.getElem?_eq_some_iff.1 h).1
  rw [List.drop_eq_getElem_cons hk, (List.getElem?_eq_some_iff.1 h).2]
end TP
namespace TR
open OM TP TM
theorem infoS : (Tryz.prog.info? 9).map (fun i => (i.zero, i.size, i.bytes)) = some (some (.string ByteArray.empty), 1, 16) := by kernel_rfl
/-- What Differ answers, wherever the paths lie. -/
def DiffPost (a b : List Nd) (w : World) (r : Ending) (w' : World) : Prop :=
  ∃ v, r = .returned v ∧ w'.ownsRow w.heap.size 9 1 v (differL a b).length ((differL a b).map txt) ∧ Below w.heap.size w w'
theorem DiffPost.nil {a b : List Nd} {w w' : World} (h : differL a b = []) (hb : Below w.heap.size w w') : DiffPost a b w (.returned (.slice none 0 0)) w' :=
  ⟨_, rfl, by rw [h]; exact World.ownsRow_nil _ _ _ _, hb⟩
theorem differ_bad {a b : List Nd} (h : treeB a = false ∨ treeB b = false) : differL a b = [] := by
  unfold differL
  rw [if_neg]
  rintro ⟨h1, h2⟩
  rcases h with h | h
  · rw [h] at h1; cases h1
  · rw [h] at h2; cases h2
end TR
namespace TG
open OM TP TM TR
theorem lay_first {W : World} {ao : Option Addr} {x : Nd} {r : List Nd} (h : LayN W ao (x :: r)) : ∃ g o, ao = some ⟨g, o, none⟩ ∧ g < W.heap.size ∧ NodeAt W g o x := by
  obtain ⟨g, o, e, hg, hc⟩ := h (by simp)
  have := hc 0 x rfl
  rw [Nat.zero_mul, Nat.add_zero] at this
  exact ⟨g, o, e, hg, this⟩
def slLen : Value → Nat
  | .slice _ n _ => n
  | _ => 0
/-- The loop's state: what is told, and what is left of both. -/
structure DState where
  a : Option Addr
  ca : Nat
  xs : List Nd
  b : Option Addr
  cb : Nat
  ys : List Nd
  told : List (List UInt8)
  v : Value
structure DOk (D : DState) (A B : List Nd) (w : World) (wr : World) : Prop where
  layA : LayN w D.a D.xs
  layB : LayN w D.b D.ys
  capA : D.xs.length ≤ D.ca
  capB : D.ys.length ≤ D.cb
  noA : D.a = none → D.ca = 0
  noB : D.b = none → D.cb = 0
  smA : SmallG D.xs
  smB : SmallG D.ys
  eq : diffM A B = D.told ++ diffM D.xs D.ys
  own : wr.ownsRow w.heap.size 9 1 D.v D.told.length (D.told.map txt)
  below : Below w.heap.size w wr
def DInv (A B : List Nd) (w : World) (s0 s1 s5 : Value) (wr : World) : Prop :=
  ∃ D : DState, s0 = .slice D.a D.xs.length D.ca ∧ s1 = .slice D.b D.ys.length D.cb ∧ D.v = s5 ∧ D.told.length + D.xs.length + D.ys.length ≤ 2000 ∧ DOk D A B w wr
/-- What the last loop tells of the rest. -/
def restK (r : List Nd) (k : Nat) : List (List UInt8) := (r.take k).map (·.path)
theorem restK_succ {r : List Nd} {k : Nat} {x : Nd} (hx : r[k]? = some x) : restK r (k + 1) = restK r k ++ [x.path] := by
  unfold restK
  rw [List.take_add_one, hx, Option.toList_some, List.map_append]
  rfl
theorem restK_len (r : List Nd) (k : Nat) : (restK r k).length ≤ k := by
  unfold restK
  rw [List.length_map, List.length_take]
  omega
theorem rest_end {xs ys : List Nd} (h : xs = [] ∨ ys = []) {k : Nat} (hk : (xs ++ ys).length ≤ k) : diffM xs ys = restK (xs ++ ys) k := by
  unfold restK
  rw [List.take_of_length_le hk]
  rcases h with rfl | rfl
  · rw [diff_right]; rfl
  · rw [diff_left, List.append_nil]
end TG
namespace TP
open NP
theorem diffM_lt {x y : Nd} {a b : List Nd} (h : ordL x.path y.path < 0) : diffM (x :: a) (y :: b) = x.path :: diffM a (y :: b) := by rw [diffM, if_pos h]
theorem diffM_gt {x y : Nd} {a b : List Nd} (h : 0 < ordL x.path y.path) : diffM (x :: a) (y :: b) = y.path :: diffM (x :: a) b := by
  have := ordL_swap x.path y.path
  rw [diffM, if_neg (by omega), if_pos (by omega)]
theorem diffM_eq {x : Nd} {a b : List Nd} : diffM (x :: a) (x :: b) = diffM a b := by rw [diffM, if_neg (ord_irr _), if_neg (ord_irr _), if_pos rfl]
theorem diffM_ne {x y : Nd} {a b : List Nd} (h : ordL x.path y.path = 0) (hne : x ≠ y) : diffM (x :: a) (y :: b) = x.path :: diffM a b := by
  have := ordL_swap x.path y.path
  rw [diffM, if_neg (by omega), if_neg (by omega), if_neg hne]
end TP
namespace TG
open OM TP TM TR

def ordL0 (x y : Nd) : Prop := NP.ordL x.path y.path < 0
def ordL2 (x y : Nd) : Prop := 0 < NP.ordL x.path y.path
theorem told_snoc (l : List (List UInt8)) (x : List UInt8) (r : List (List UInt8)) : (l ++ [x]) ++ r = l ++ x :: r := by simp
theorem sl_tail1 {ao : Option Addr} {x : Nd} {r : List Nd} {cap : Nat} (hc : (x :: r).length ≤ cap) :
    ∃ ao' c', (∀ W, (Instr.slice 22 (.slice ao (r.length + 1) cap) (some (.int .i64 1)) none none).run Tryz.prog W = .ok (.slice ao' r.length c') W) ∧
      (∀ W, LayN W ao (x :: r) → LayN W ao' r) ∧ r.length ≤ c' ∧ ((ao = none → cap = 0) → ao' = none → c' = 0) := by
  obtain ⟨ao', c', h1, h2, h3, h4⟩ := sl_from ndsl_node ao (x :: r) 1 cap (by simp) hc
  exact ⟨ao', c', h1, h2, by simpa using h3, h4⟩
set_option maxRecDepth 100000 in
set_option maxHeartbeats 12800000 in
theorem differ_any (ao bo : Option Addr) (ca cb : Nat) (A B : List Nd) (w : World) (he : NF.Env w) (ha : LayN w ao A) (hb : LayN w bo B) (sa : SmallG A) (sb : SmallG B) (la : A.length ≤ maxLen) (lb : B.length ≤ maxLen)
    (ca1 : A.length ≤ ca) (cb1 : B.length ≤ cb) (na : ao = none → ca = 0) (nb : bo = none → cb = 0) :
    Calls Tryz.prog 17 #[.slice ao A.length ca, .slice bo B.length cb] w (DiffPost A B w) := by
  obtain ⟨i0, hi, hz0, hz1, hz2⟩ := info_parts infoS
  have c1 := check_any ao ca A w he ha sa la ca1
  have c2 := fun W (hW : Below w.heap.size w W) => check_any bo cb B W (he.below hW) (hb.below hW) sb lb cb1
  have hE1 := checkG_zero A
  have hF1 := checkG_zero B
  have HIn : Hid (∀ W, Below w.heap.size w W → DOk ⟨ao, ca, A, bo, cb, B, [], .slice none 0 0⟩ A B w W) := Lib.hid (fun W hW => ⟨ha, hb, ca1, cb1, na, nb, sa, sb, rfl, World.ownsRow_nil _ _ _ _, hW⟩)
  obtain ⟨n, hn⟩ : ∃ n, A.length = n := ⟨_, rfl⟩
  obtain ⟨m, hm⟩ : ∃ m, B.length = m := ⟨_, rfl⟩
  have HN := Lib.hid hn
  have HM := Lib.hid hm
  obtain ⟨E, hE⟩ : ∃ E : Nat, checkG A = E := ⟨_, rfl⟩
  obtain ⟨F, hF⟩ : ∃ F : Nat, checkG B = F := ⟨_, rfl⟩
  rw [hE] at c1 hE1
  rw [hF] at c2 hF1
  unfold maxLen at la lb
  rw [hn] at c1 la ⊢
  rw [hm] at c2 lb ⊢
  have hnz : (n : Int) ≤ 9223372036854775807 := by omega
  have hmz : (m : Int) ≤ 9223372036854775807 := by omega
  have C1 := Lib.hid c1
  have C2 := Lib.hid c2
  clear c1 c2 ha hb sa sb la lb ca1 cb1 na nb hn hm hE hF
  by_cases e1 : (E : Int) = 0
  · have hEb : ((E : Int) != 0) = false := by simp [e1]
    by_cases f1 : (F : Int) = 0
    · have hFb : ((F : Int) != 0) = false := by simp [f1]
      have hta := (tree_iff A).1 (hE1.1 e1)
      have htb := (tree_iff B).1 (hF1.1 f1)
      have HDf : Hid (differL A B = diffM A B) := Lib.hid (by unfold differL; rw [if_pos ⟨hE1.1 e1, hF1.1 f1⟩])
      have HAB : Hid (A.length + B.length ≤ 2000) := Lib.hid (by have := hta.len; have := htb.len; omega)
      clear e1 f1 hE1 hF1 hta htb
      go_enter Tryz.func17, Tryz.ntmps17
      repeat (first
        | (go_at_call_of 29 (Value.slice ao n ca); refine C1.out.mono ?_; rintro r w1 ⟨rfl, hb⟩; simp only []; have B1 := Lib.hid hb; clear hb)
        | (go_at_call_of 29 (Value.slice bo m cb); refine (C2.out _ B1.out).mono ?_; rintro r w2 ⟨rfl, hb⟩; simp only []; have B2 := Lib.hid (Below.trans B1.out (hb.mono B1.out.size)); clear hb)
        | go_skip | go_guarded | go_step | go_upon)
      go_loopw [0, 1, 5] (fun s0 s1 s5 wr => DInv A B w s0 s1 s5 wr) (fun s0 s1 _ _ => slLen s0 + slLen s1)
      case atStart => exact ⟨⟨ao, ca, A, bo, cb, B, [], .slice none 0 0⟩, by rw [HN.out], by rw [HM.out], rfl, by have := HAB.out; simpa using this, HIn.out _ B2.out⟩
      case round =>
        obtain ⟨⟨a, c1, xs, b, c2, ys, told, v5⟩, rfl, rfl, rfl, hsum, hok⟩ := hrel
        simp only at hsum ⊢
        have HD := Lib.hid hok
        have HSum := Lib.hid hsum
        clear hok hsum
        obtain ⟨wo, rfl⟩ : ∃ x, x = wr := ⟨_, rfl⟩
        cases xs with
        | nil =>
          obtain ⟨R, hR⟩ : ∃ R, ([] : List Nd) ++ ys = R := ⟨_, rfl⟩
          have HR := Lib.hid hR
          have HOr : Hid (([] : List Nd) = [] ∨ ys = []) := Lib.hid (.inl rfl)
          obtain ⟨n2, hn2⟩ : ∃ n2, ys.length = n2 := ⟨_, rfl⟩
          have HN2 := Lib.hid hn2
          have hn2z : (n2 : Int) ≤ 2000 := by have := HSum.out; simp only [List.length_nil] at this; omega
          simp only [List.length_nil, hn2]
          clear hR hn2
          have HConc : Hid (Calls Tryz.prog 33 #[.slice (some ⟨wo.heap.size, 0, none⟩) 2 2] (wo.alloc (.cells #[.slice a 0 c1, .slice b n2 c2] 22)) (AtPost R (wo.alloc (.cells #[.slice a 0 c1, .slice b n2 c2] 22)))) := Lib.hid (by
            have hrow := heap_alloc_new wo (.cells #[.slice a 0 c1, .slice b n2 c2] 22)
            have hb : Below wo.heap.size wo (wo.alloc (.cells #[.slice a 0 c1, .slice b n2 c2] 22)) := (Below.refl _ _).alloc (Nat.le_refl _) _
            have := catN_any wo.heap.size 2 [⟨a, c1, []⟩, ⟨b, c2, ys⟩] (wo.alloc (.cells #[.slice a 0 c1, .slice b n2 c2] 22)) (by simp) (fun k e he => ?_) (fun e he => ?_) ?_ (by simp)
            · rw [← HR.out]
              simpa using this
            · match k with
              | 0 => simp at he; subst he; rw [cell_of_row _ _ 0 _ _ _ hrow]; rfl
              | 1 => simp at he; subst he; rw [cell_of_row _ _ 1 _ _ _ hrow]; rw [HN2.out]; rfl
              | k + 2 => simp at he
            · simp only [List.mem_cons, List.not_mem_nil, or_false] at he
              rcases he with rfl | rfl
              · exact ⟨HD.out.layA.below (HD.out.below.trans (hb.mono HD.out.below.size)), HD.out.noA⟩
              · exact ⟨HD.out.layB.below (HD.out.below.trans (hb.mono HD.out.below.size)), HD.out.noB⟩
            · simp [tot]
              have := HSum.out
              simp only [List.length_cons, List.length_nil] at this
              omega)
          have BA : Hid (Below w.heap.size w (wo.alloc (.cells #[.slice a 0 c1, .slice b n2 c2] 22))) := Lib.hid (HD.out.below.alloc HD.out.below.size _)
          have OA : Hid ((wo.alloc (.cells #[.slice a 0 c1, .slice b n2 c2] 22)).ownsRow w.heap.size 9 1 v5 told.length (told.map txt)) := Lib.hid (HD.out.own.alloc _)
          have HEq := Lib.hid HD.out.eq
          simp only at HEq
          have hRl : told.length + R.length ≤ 2000 := by have := HSum.out; rw [← HR.out]; simp only [List.length_append] at this ⊢; omega
          repeat (first | (go_at_call 33; fail) | go_skip | go_guarded | go_step | go_upon)
          refine HConc.out.mono ?_
          rintro r w2 ⟨u, rfl, hown, hb⟩
          simp only []
          have B2 := Lib.hid (Below.trans BA.out (hb.mono BA.out.size))
          have O2 := Lib.hid (owns_below OA.out hb)
          obtain ⟨q, hq⟩ : ∃ q, R.length = q := ⟨_, rfl⟩
          have HQ := Lib.hid hq
          rw [hq] at hown hRl
          obtain ⟨au, cu, rfl, _⟩ := owns_view hown
          have HU2 := Lib.hid (owns_base hown w.heap.size BA.out.size)
          have hqz : (q : Int) ≤ 2000 := by omega
          clear hb hown hq HConc BA OA HD
          repeat (first | go_skip | go_guarded | go_step | go_upon)
          go_loopw [78, 5] (fun s78 s5 wv => ∃ k : Nat, s78 = .int .i64 k ∧ k ≤ q ∧ wv.ownsRow w.heap.size 9 1 s5 (told ++ restK R k).length ((told ++ restK R k).map txt) ∧ wv.ownsRow w.heap.size 40 4 (.slice au q cu) q (nodesC R) ∧ Below w.heap.size w wv) (fun s78 _ _ => q - (Go.RowKit.intOf s78).toNat)
          case atStart => exact ⟨0, rfl, Nat.zero_le _, by have := O2.out; simpa [restK] using this, HU2.out, B2.out⟩
          case round =>
            obtain ⟨k, rfl, hk, ho, hu, hb⟩ := hrel
            have HO := Lib.hid ho
            have HU := Lib.hid hu
            have HB := Lib.hid hb
            have hbs := hb.size
            have HKl := Lib.hid (restK_len R k)
            by_cases hlt : k < q
            · have hkz : (k : Int) < q := by omega
              have hLr : LayN wr au R := by
                have h1 := hu
                rw [← HQ.out] at h1
                obtain ⟨ao5, c5, e5, h5⟩ := lay_own h1
                simp only [Value.slice.injEq, HQ.out, true_and] at e5
                rw [e5.1]
                exact h5
              obtain ⟨g, o, rfl, hg, hcell⟩ := hLr (by rw [HQ.out]; omega)
              obtain ⟨x, hx⟩ : ∃ x, R[k]? = some x := ⟨R[k]'(by rw [HQ.out]; exact hlt), List.getElem?_eq_getElem _⟩
              obtain ⟨k0, k1, k2, k3⟩ := hcell k x hx
              obtain ⟨X, hX, _⟩ := txt_of x.path
              obtain ⟨T, hT, _⟩ := txt_of x.data
              rw [hX] at k0
              rw [hT] at k2
              obtain ⟨wa, hwa⟩ : ∃ wa, wr.alloc (.cells #[.string X, .int .i64 x.kind, .string T, .int .i64 x.mode] 40) = wa := ⟨_, rfl⟩
              have hba : Below (wr).heap.size wr wa := by rw [← hwa]; exact (Below.refl _ _).alloc (Nat.le_refl _) _
              obtain ⟨a0, _, _, _⟩ := box4 wr (.string X) (.int .i64 x.kind) (.string T) (.int .i64 x.mode) 40
              rw [hwa] at a0
              have HBa := Lib.hid (Below.trans HB.out (hba.mono hbs))
              have HOa := Lib.hid (owns_below HO.out hba)
              have HUa := Lib.hid (owns_below HU.out hba)
              have hsa := HBa.out.size
              have HK := Lib.hid (restK_succ hx)
              have HTx := Lib.hid hX
              have hkl : (told ++ restK R k).length ≤ 2000 := by have := HKl.out; rw [List.length_append]; omega
              clear hX hT hx hcell hLr ho hu hb
              repeat (first
                | (at_builtin; refine wpList_append_own _ rfl _ _ 46 rfl w.heap.size 9 i0 (.string ByteArray.empty) 1 16 Tryz.underlying46 hi hz0 hz1 hz2 rfl (by decide) _ _ _ rfl (HOa.out.alloc _) ⟨wa.heap.size, 0, none⟩ 1 1 [.string X] rfl rfl (one_new _ _ _) (fun x hx => by simp at hx; subst hx; rfl) (by unfold maxLen; omega) (by omega) (by simp; omega) ?_; intro v' w5 hown' hgrow5 hnil5; have HO5 := Lib.hid hown'; have HU5 := Lib.hid (owns_others (T := 9) (HUa.out.alloc _) (by decide) (others_grown (HOa.out.alloc _) hgrow5)); have HB5 := Lib.hid ((HBa.out.alloc hsa (.cells #[.string X] 9)).grown hgrow5 (by simp; omega) (fun j hj => (HOa.out.lt j hj).1)); clear hown' hgrow5 hnil5)
                | go_skip | go_guarded | go_step | go_upon)
              refine ⟨⟨k + 1, by go_num, by omega, ?_, HU5.out, HB5.out⟩, by simp [Go.RowKit.intOf]; omega⟩
              rw [HK.out, ← List.append_assoc, List.length_append, List.length_singleton, List.map_append, List.map_singleton, HTx.out]
              exact HO5.out
            · have hkz : ¬ (k : Int) < q := by omega
              have HK : Hid (differL A B = told ++ restK R k) := Lib.hid (by
                rw [HDf.out, HEq.out, rest_end HOr.out (k := k) (by rw [HR.out, HQ.out]; omega), HR.out])
              clear hlt ho hu hb
              repeat (first | go_skip | go_guarded | go_step | go_upon)
              go_ret
              exact ⟨_, rfl, by rw [HK.out]; exact HO.out, HB.out⟩
        | cons x xr =>
          cases ys with
          | nil =>
            obtain ⟨R, hR⟩ : ∃ R, (x :: xr) ++ ([] : List Nd) = R := ⟨_, rfl⟩
            have HR := Lib.hid hR
            have HOr : Hid ((x :: xr) = [] ∨ ([] : List Nd) = []) := Lib.hid (.inr rfl)
            obtain ⟨n1, hn1⟩ : ∃ n1, (x :: xr).length = n1 := ⟨_, rfl⟩
            have HN1 := Lib.hid hn1
            have hn1z : (n1 : Int) ≤ 2000 := by have := HSum.out; simp only [List.length_nil] at this; omega
            have hn1p : 0 < n1 := by rw [← hn1]; simp
            have hn1q : (0 : Int) < n1 := by omega
            have hn1d : decide (0 < n1) = true := decide_eq_true hn1p
            simp only [List.length_nil, hn1]
            clear hR hn1
            have HConc : Hid (Calls Tryz.prog 33 #[.slice (some ⟨wo.heap.size, 0, none⟩) 2 2] (wo.alloc (.cells #[.slice a n1 c1, .slice b 0 c2] 22)) (AtPost R (wo.alloc (.cells #[.slice a n1 c1, .slice b 0 c2] 22)))) := Lib.hid (by
              have hrow := heap_alloc_new wo (.cells #[.slice a n1 c1, .slice b 0 c2] 22)
              have hb : Below wo.heap.size wo (wo.alloc (.cells #[.slice a n1 c1, .slice b 0 c2] 22)) := (Below.refl _ _).alloc (Nat.le_refl _) _
              have := catN_any wo.heap.size 2 [⟨a, c1, x :: xr⟩, ⟨b, c2, []⟩] (wo.alloc (.cells #[.slice a n1 c1, .slice b 0 c2] 22)) (by simp) (fun k e he => ?_) (fun e he => ?_) ?_ (by simp)
              · rw [← HR.out]
                simpa using this
              · match k with
                | 0 => simp at he; subst he; rw [cell_of_row _ _ 0 _ _ _ hrow]; rw [HN1.out]; rfl
                | 1 => simp at he; subst he; rw [cell_of_row _ _ 1 _ _ _ hrow]; rfl
                | k + 2 => simp at he
              · simp only [List.mem_cons, List.not_mem_nil, or_false] at he
                rcases he with rfl | rfl
                · exact ⟨HD.out.layA.below (HD.out.below.trans (hb.mono HD.out.below.size)), HD.out.noA⟩
                · exact ⟨HD.out.layB.below (HD.out.below.trans (hb.mono HD.out.below.size)), HD.out.noB⟩
              · simp [tot]
                have := HSum.out
                simp only [List.length_cons, List.length_nil] at this
                omega)
            have BA : Hid (Below w.heap.size w (wo.alloc (.cells #[.slice a n1 c1, .slice b 0 c2] 22))) := Lib.hid (HD.out.below.alloc HD.out.below.size _)
            have OA : Hid ((wo.alloc (.cells #[.slice a n1 c1, .slice b 0 c2] 22)).ownsRow w.heap.size 9 1 v5 told.length (told.map txt)) := Lib.hid (HD.out.own.alloc _)
            have HEq := Lib.hid HD.out.eq
            simp only at HEq
            have hRl : told.length + R.length ≤ 2000 := by have := HSum.out; rw [← HR.out]; simp only [List.length_append] at this ⊢; omega
            repeat (first | (go_at_call 33; fail) | go_skip | go_guarded | go_step | go_upon)
            refine HConc.out.mono ?_
            rintro r w2 ⟨u, rfl, hown, hb⟩
            simp only []
            have B2 := Lib.hid (Below.trans BA.out (hb.mono BA.out.size))
            have O2 := Lib.hid (owns_below OA.out hb)
            obtain ⟨q, hq⟩ : ∃ q, R.length = q := ⟨_, rfl⟩
            have HQ := Lib.hid hq
            rw [hq] at hown hRl
            obtain ⟨au, cu, rfl, _⟩ := owns_view hown
            have HU2 := Lib.hid (owns_base hown w.heap.size BA.out.size)
            have hqz : (q : Int) ≤ 2000 := by omega
            clear hb hown hq HConc BA OA HD
            repeat (first | go_skip | go_guarded | go_step | go_upon)
            go_loopw [78, 5] (fun s78 s5 wv => ∃ k : Nat, s78 = .int .i64 k ∧ k ≤ q ∧ wv.ownsRow w.heap.size 9 1 s5 (told ++ restK R k).length ((told ++ restK R k).map txt) ∧ wv.ownsRow w.heap.size 40 4 (.slice au q cu) q (nodesC R) ∧ Below w.heap.size w wv) (fun s78 _ _ => q - (Go.RowKit.intOf s78).toNat)
            case atStart => exact ⟨0, rfl, Nat.zero_le _, by have := O2.out; simpa [restK] using this, HU2.out, B2.out⟩
            case round =>
              obtain ⟨k, rfl, hk, ho, hu, hb⟩ := hrel
              have HO := Lib.hid ho
              have HU := Lib.hid hu
              have HB := Lib.hid hb
              have hbs := hb.size
              have HKl := Lib.hid (restK_len R k)
              by_cases hlt : k < q
              · have hkz : (k : Int) < q := by omega
                have hLr : LayN wr au R := by
                  have h1 := hu
                  rw [← HQ.out] at h1
                  obtain ⟨ao5, c5, e5, h5⟩ := lay_own h1
                  simp only [Value.slice.injEq, HQ.out, true_and] at e5
                  rw [e5.1]
                  exact h5
                obtain ⟨g, o, rfl, hg, hcell⟩ := hLr (by rw [HQ.out]; omega)
                obtain ⟨x, hx⟩ : ∃ x, R[k]? = some x := ⟨R[k]'(by rw [HQ.out]; exact hlt), List.getElem?_eq_getElem _⟩
                obtain ⟨k0, k1, k2, k3⟩ := hcell k x hx
                obtain ⟨X, hX, _⟩ := txt_of x.path
                obtain ⟨T, hT, _⟩ := txt_of x.data
                rw [hX] at k0
                rw [hT] at k2
                obtain ⟨wa, hwa⟩ : ∃ wa, wr.alloc (.cells #[.string X, .int .i64 x.kind, .string T, .int .i64 x.mode] 40) = wa := ⟨_, rfl⟩
                have hba : Below (wr).heap.size wr wa := by rw [← hwa]; exact (Below.refl _ _).alloc (Nat.le_refl _) _
                obtain ⟨a0, _, _, _⟩ := box4 wr (.string X) (.int .i64 x.kind) (.string T) (.int .i64 x.mode) 40
                rw [hwa] at a0
                have HBa := Lib.hid (Below.trans HB.out (hba.mono hbs))
                have HOa := Lib.hid (owns_below HO.out hba)
                have HUa := Lib.hid (owns_below HU.out hba)
                have hsa := HBa.out.size
                have HK := Lib.hid (restK_succ hx)
                have HTx := Lib.hid hX
                have hkl : (told ++ restK R k).length ≤ 2000 := by have := HKl.out; rw [List.length_append]; omega
                clear hX hT hx hcell hLr ho hu hb
                repeat (first
                  | (at_builtin; refine wpList_append_own _ rfl _ _ 46 rfl w.heap.size 9 i0 (.string ByteArray.empty) 1 16 Tryz.underlying46 hi hz0 hz1 hz2 rfl (by decide) _ _ _ rfl (HOa.out.alloc _) ⟨wa.heap.size, 0, none⟩ 1 1 [.string X] rfl rfl (one_new _ _ _) (fun x hx => by simp at hx; subst hx; rfl) (by unfold maxLen; omega) (by omega) (by simp; omega) ?_; intro v' w5 hown' hgrow5 hnil5; have HO5 := Lib.hid hown'; have HU5 := Lib.hid (owns_others (T := 9) (HUa.out.alloc _) (by decide) (others_grown (HOa.out.alloc _) hgrow5)); have HB5 := Lib.hid ((HBa.out.alloc hsa (.cells #[.string X] 9)).grown hgrow5 (by simp; omega) (fun j hj => (HOa.out.lt j hj).1)); clear hown' hgrow5 hnil5)
                  | go_skip | go_guarded | go_step | go_upon)
                refine ⟨⟨k + 1, by go_num, by omega, ?_, HU5.out, HB5.out⟩, by simp [Go.RowKit.intOf]; omega⟩
                rw [HK.out, ← List.append_assoc, List.length_append, List.length_singleton, List.map_append, List.map_singleton, HTx.out]
                exact HO5.out
              · have hkz : ¬ (k : Int) < q := by omega
                have HK : Hid (differL A B = told ++ restK R k) := Lib.hid (by
                  rw [HDf.out, HEq.out, rest_end HOr.out (k := k) (by rw [HR.out, HQ.out]; omega), HR.out])
                clear hlt ho hu hb
                repeat (first | go_skip | go_guarded | go_step | go_upon)
                go_ret
                exact ⟨_, rfl, by rw [HK.out]; exact HO.out, HB.out⟩
          | cons y yr =>
            have hlA := HD.out.layA
            have hlB := HD.out.layB
            have hcA := HD.out.capA
            have hcB := HD.out.capB
            have hoA := HD.out.noA
            have hoB := HD.out.noB
            simp only at hlA hlB hcA hcB hoA hoB
            obtain ⟨a', ca', hsa, hla, hca, hna⟩ := sl_tail1 (ao := a) hcA
            obtain ⟨b', cb', hsb, hlb, hcb, hnb⟩ := sl_tail1 (ao := b) hcB
            obtain ⟨g1, o1, ha1, hg1, hn1⟩ := lay_first hlA
            obtain ⟨g2, o2, hb1, hg2, hn2⟩ := lay_first hlB
            have HLA := Lib.hid (hla w hlA)
            have HLB := Lib.hid (hlb w hlB)
            have HnA := Lib.hid (hna hoA)
            have HnB := Lib.hid (hnb hoB)
            subst ha1 hb1
            obtain ⟨X, hX, hXd⟩ := txt_of x.path
            obtain ⟨XD, hXD, _⟩ := txt_of x.data
            obtain ⟨Y, hY, hYd⟩ := txt_of y.path
            obtain ⟨YD, hYD, _⟩ := txt_of y.data
            have CL : Hid (∀ W, Below w.heap.size w W → W.cell? ⟨g1, o1, none⟩ = some (.string X) ∧ W.cell? ⟨g1, o1 + 1, none⟩ = some (.int .i64 x.kind) ∧ W.cell? ⟨g1, o1 + 2, none⟩ = some (.string XD) ∧ W.cell? ⟨g1, o1 + 3, none⟩ = some (.int .i64 x.mode) ∧ W.cell? ⟨g2, o2, none⟩ = some (.string Y) ∧ W.cell? ⟨g2, o2 + 1, none⟩ = some (.int .i64 y.kind) ∧ W.cell? ⟨g2, o2 + 2, none⟩ = some (.string YD) ∧ W.cell? ⟨g2, o2 + 3, none⟩ = some (.int .i64 y.mode)) := Lib.hid (fun W hW => by
              obtain ⟨p, k, d, m⟩ := hn1.below hg1 hW
              obtain ⟨p', k', d', m'⟩ := hn2.below hg2 hW
              rw [hX] at p
              rw [hXD] at d
              rw [hY] at p'
              rw [hYD] at d'
              exact ⟨p, k, d, m, p', k', d', m'⟩)
            have sx := (HD.out.smA x (List.mem_cons_self ..)).1
            have sy := (HD.out.smB y (List.mem_cons_self ..)).1
            have HTA := Lib.hid (show SmallG xr from fun m hm => HD.out.smA m (List.mem_cons_of_mem _ hm))
            have HTB := Lib.hid (show SmallG yr from fun m hm => HD.out.smB m (List.mem_cons_of_mem _ hm))
            have HEq := Lib.hid HD.out.eq
            have HOwn := Lib.hid HD.out.own
            simp only at HEq HOwn
            have HBo := Lib.hid HD.out.below
            have HXt := Lib.hid hX
            have HYt := Lib.hid hY
            obtain ⟨q1, hq1⟩ : ∃ q1, xr.length = q1 := ⟨_, rfl⟩
            obtain ⟨q2, hq2⟩ : ∃ q2, yr.length = q2 := ⟨_, rfl⟩
            obtain ⟨n1, hn1'⟩ : ∃ n1, q1 + 1 = n1 := ⟨_, rfl⟩
            obtain ⟨n2, hn2'⟩ : ∃ n2, q2 + 1 = n2 := ⟨_, rfl⟩
            have HQ1 := Lib.hid hq1
            have HQ2 := Lib.hid hq2
            have HN1 := Lib.hid hn1'
            have HN2 := Lib.hid hn2'
            have hs3 : told.length + n1 + n2 ≤ 2000 := by have := HSum.out; simp only [List.length_cons] at this; omega
            rw [hq1, hn1'] at hsa
            rw [hq2, hn2'] at hsb
            simp only [List.length_cons, hq1, hq2, hn1', hn2']
            have p1 : 0 < n1 := by omega
            have p2 : 0 < n2 := by omega
            have p1z : (0 : Int) < n1 := by omega
            have p2z : (0 : Int) < n2 := by omega
            have p1d : decide (0 < n1) = true := decide_eq_true p1
            have p2d : decide (0 < n2) = true := decide_eq_true p2
            have n1z : (n1 : Int) ≤ 2000 := by omega
            have n2z : (n2 : Int) ≤ 2000 := by omega
            have htl : (told ++ [x.path]).length ≤ 2000 := by rw [List.length_append, List.length_singleton]; omega
            have hto : told.length ≤ 2000 := by omega
            have hcA' : n1 ≤ c1 := by rw [List.length_cons] at hcA; omega
            have hcB' : n2 ≤ c2 := by rw [List.length_cons] at hcB; omega
            have DoA : Hid (∀ v W, ordL0 x y → W.ownsRow w.heap.size 9 1 v (told ++ [x.path]).length ((told ++ [x.path]).map txt) → Below w.heap.size w W → DOk ⟨a', ca', xr, some ⟨g2, o2, none⟩, c2, y :: yr, told ++ [x.path], v⟩ A B w W) := Lib.hid (fun v W h ho hb =>
              ⟨HLA.out, HD.out.layB, hca, HD.out.capB, HnA.out, HD.out.noB, HTA.out, HD.out.smB, by simp only; rw [HEq.out, diffM_lt h, told_snoc], ho, hb⟩)
            have DoB : Hid (∀ v W, ordL2 x y → W.ownsRow w.heap.size 9 1 v (told ++ [y.path]).length ((told ++ [y.path]).map txt) → Below w.heap.size w W → DOk ⟨some ⟨g1, o1, none⟩, c1, x :: xr, b', cb', yr, told ++ [y.path], v⟩ A B w W) := Lib.hid (fun v W h ho hb =>
              ⟨HD.out.layA, HLB.out, HD.out.capA, hcb, HD.out.noA, HnB.out, HD.out.smA, HTB.out, by simp only; rw [HEq.out, diffM_gt h, told_snoc], ho, hb⟩)
            have DoE : Hid (∀ v W, x = y → W.ownsRow w.heap.size 9 1 v told.length (told.map txt) → Below w.heap.size w W → DOk ⟨a', ca', xr, b', cb', yr, told, v⟩ A B w W) := Lib.hid (fun v W h ho hb =>
              ⟨HLA.out, HLB.out, hca, hcb, HnA.out, HnB.out, HTA.out, HTB.out, by simp only; rw [HEq.out, h, diffM_eq], ho, hb⟩)
            have DoN : Hid (∀ v W, NP.ordL x.path y.path = 0 → x ≠ y → W.ownsRow w.heap.size 9 1 v (told ++ [x.path]).length ((told ++ [x.path]).map txt) → Below w.heap.size w W → DOk ⟨a', ca', xr, b', cb', yr, told ++ [x.path], v⟩ A B w W) := Lib.hid (fun v W h hne ho hb =>
              ⟨HLA.out, HLB.out, hca, hcb, HnA.out, HnB.out, HTA.out, HTB.out, by simp only; rw [HEq.out, diffM_ne h hne, told_snoc], ho, hb⟩)
            obtain ⟨x0, x1, x2, x3, y0, y1, y2, y3⟩ := CL.out wo HBo.out
            have fx := cell_regrown x0
            have fy := cell_regrown y0
            obtain ⟨z, hz⟩ : ∃ z, NP.ordL x.path y.path = z := ⟨_, rfl⟩
            have HZ := Lib.hid hz
            have d5 := reg_g (w := wo) (f := 32) (args := #[.string X, .string Y]) (v := .int .i64 z) (fun W hW => by
              have := order_txt X Y x.path y.path W hXd hYd sx sy
              rw [hz] at this
              exact this)
            have hz3 : z = -1 ∨ z = 0 ∨ z = 1 := by rw [← hz]; exact NP.ordL_cases _ _
            have he := fun W => eq_nd x y W
            unfold ndVal at he
            rw [hX, hXD, hY, hYD] at he
            have HE := Lib.hid he
            clear hlA hlB hcA hcB hoA hoB hla hlb hna hnb hca hcb hX hXD hY hYD hXd hYd hn1 hn2 hq1 hq2 hn1' hn2' hz he HD sx sy
            rcases hz3 with rfl | rfl | rfl
            · have HLt : Hid (ordL0 x y) := Lib.hid (by unfold ordL0; rw [HZ.out]; decide)
              have D5 := Lib.hid d5
              clear d5
              repeat (first | go_skip | go_guarded | go_step | go_upon)
              with_reducible refine wp_region_quiet_below (by kernel_rfl) (by kernel_rfl) ?_
              repeat (go_big_quiet_step (first | (go_at_call 32; exact D5.out _ _)))
              refine wpQuiet_nil ?_
              intro _ hw'
              obtain ⟨⟨dq, osq⟩, hw''⟩ := hw'
              subst hw''
              have W2 : Hid (Below wo.heap.size wo (Go.Sort.grow (redrawn wo dq) osq)) := Lib.hid (below_regrown wo dq osq)
              clear fx fy x0 x1 x2 x3 y0 y1 y2 y3
              generalize Go.Sort.grow (redrawn wo dq) osq = w2 at W2 ⊢
              have B2 := Lib.hid (Below.trans HBo.out (W2.out.mono HBo.out.size))
              have O2 := Lib.hid (owns_below HOwn.out W2.out)
              have hs2 := B2.out.size
              obtain ⟨x0, x1, x2, x3, y0, y1, y2, y3⟩ := CL.out w2 B2.out
              repeat (first | (at_builtin; refine wpList_append_own _ rfl _ _ 46 rfl w.heap.size 9 i0 (.string ByteArray.empty) 1 16 Tryz.underlying46 hi hz0 hz1 hz2 rfl (by decide) _ _ _ rfl (O2.out.alloc _) ⟨w2.heap.size, 0, none⟩ 1 1 [.string X] rfl rfl (one_new _ _ _) (fun x hx => by simp at hx; subst hx; rfl) (by unfold maxLen; omega) (by omega) (by simp; omega) ?_; intro v' w5 hown' hgrow5 hnil5; have HO5 := Lib.hid hown'; have HB5 := Lib.hid ((B2.out.alloc hs2 (.cells #[.string X] 9)).grown hgrow5 (by simp; omega) (fun j hj => (O2.out.lt j hj).1)); clear hown' hgrow5 hnil5) | go_skip | go_guarded | go_step | go_upon)
              refine ⟨⟨⟨a', ca', xr, some ⟨g2, o2, none⟩, c2, y :: yr, told ++ [x.path], v'⟩, by simp only []; rw [HQ1.out], by simp only [List.length_cons]; rw [HQ2.out, HN2.out], rfl, by simp only [List.length_append, List.length_nil, List.length_cons]; have := HN1.out; have := HN2.out; have := HQ1.out; have := HQ2.out; omega, DoA.out v' w5 HLt.out ?_ HB5.out⟩, by simp [slLen]; have := HN1.out; omega⟩
              rw [List.length_append, List.length_singleton, List.map_append, List.map_singleton, HXt.out]
              exact HO5.out
            · have HEz : Hid (NP.ordL x.path y.path = 0) := HZ
              by_cases hxy : x = y
              · have hex : ∀ W, (Op.equalIn 10000 40 (.agg #[.string X, .int .i64 x.kind, .string XD, .int .i64 x.mode]) (.agg #[.string Y, .int .i64 y.kind, .string YD, .int .i64 y.mode])).run Tryz.prog W = .ok true W := fun W => by rw [HE.out W, decide_eq_true hxy]
                have HXY := Lib.hid hxy
                clear hxy
                have D5 := Lib.hid d5
                clear d5
                repeat (first | go_skip | go_guarded | go_step | go_upon)
                with_reducible refine wp_region_quiet_below (by kernel_rfl) (by kernel_rfl) ?_
                repeat (go_big_quiet_step (first | (go_at_call 32; exact D5.out _ _)))
                refine wpQuiet_nil ?_
                intro _ hw'
                obtain ⟨⟨dq, osq⟩, hw''⟩ := hw'
                subst hw''
                have W2 : Hid (Below wo.heap.size wo (Go.Sort.grow (redrawn wo dq) osq)) := Lib.hid (below_regrown wo dq osq)
                clear fx fy x0 x1 x2 x3 y0 y1 y2 y3
                generalize Go.Sort.grow (redrawn wo dq) osq = w2 at W2 ⊢
                have B2 := Lib.hid (Below.trans HBo.out (W2.out.mono HBo.out.size))
                have O2 := Lib.hid (owns_below HOwn.out W2.out)
                have hs2 := B2.out.size
                obtain ⟨x0, x1, x2, x3, y0, y1, y2, y3⟩ := CL.out w2 B2.out
                repeat (first | go_skip | go_guarded | go_step | go_upon)
                go_quiet (fail)
                rename_i nq
                have W3 : Hid (Below w2.heap.size w2 (w2.drewN nq)) := Lib.hid ⟨rfl, rfl, rfl, Nat.le_refl _, fun _ _ => rfl⟩
                clear x0 x1 x2 x3 y0 y1 y2 y3 hex
                generalize w2.drewN nq = w3 at W3 ⊢
                have B3 := Lib.hid (Below.trans B2.out (W3.out.mono B2.out.size))
                have O3 := Lib.hid (owns_below O2.out W3.out)
                repeat (first | go_skip | go_guarded | go_step | go_upon)
                go_quiet (fail)
                have W4 : Hid (Below w3.heap.size w3 (w3.drewN nq)) := Lib.hid ⟨rfl, rfl, rfl, Nat.le_refl _, fun _ _ => rfl⟩
                generalize w3.drewN nq = w4 at W4 ⊢
                have B4 := Lib.hid (Below.trans B3.out (W4.out.mono B3.out.size))
                have O4 := Lib.hid (owns_below O3.out W4.out)
                repeat (first | go_skip | go_guarded | go_step | go_upon)
                exact ⟨⟨⟨a', ca', xr, b', cb', yr, told, v5⟩, by simp only []; rw [HQ1.out], by simp only []; rw [HQ2.out], rfl, by simp only []; have := HN1.out; have := HN2.out; have := HQ1.out; have := HQ2.out; omega, DoE.out _ w4 HXY.out O4.out B4.out⟩, by simp [slLen]; have := HN1.out; have := HN2.out; omega⟩
              · have hex : ∀ W, (Op.equalIn 10000 40 (.agg #[.string X, .int .i64 x.kind, .string XD, .int .i64 x.mode]) (.agg #[.string Y, .int .i64 y.kind, .string YD, .int .i64 y.mode])).run Tryz.prog W = .ok false W := fun W => by rw [HE.out W, decide_eq_false hxy]
                have HXY := Lib.hid hxy
                clear hxy
                have D5 := Lib.hid d5
                clear d5
                repeat (first | go_skip | go_guarded | go_step | go_upon)
                with_reducible refine wp_region_quiet_below (by kernel_rfl) (by kernel_rfl) ?_
                repeat (go_big_quiet_step (first | (go_at_call 32; exact D5.out _ _)))
                refine wpQuiet_nil ?_
                intro _ hw'
                obtain ⟨⟨dq, osq⟩, hw''⟩ := hw'
                subst hw''
                have W2 : Hid (Below wo.heap.size wo (Go.Sort.grow (redrawn wo dq) osq)) := Lib.hid (below_regrown wo dq osq)
                clear fx fy x0 x1 x2 x3 y0 y1 y2 y3
                generalize Go.Sort.grow (redrawn wo dq) osq = w2 at W2 ⊢
                have B2 := Lib.hid (Below.trans HBo.out (W2.out.mono HBo.out.size))
                have O2 := Lib.hid (owns_below HOwn.out W2.out)
                have hs2 := B2.out.size
                obtain ⟨x0, x1, x2, x3, y0, y1, y2, y3⟩ := CL.out w2 B2.out
                repeat (first | go_skip | go_guarded | go_step | go_upon)
                go_quiet (fail)
                rename_i nq
                have W3 : Hid (Below w2.heap.size w2 (w2.drewN nq)) := Lib.hid ⟨rfl, rfl, rfl, Nat.le_refl _, fun _ _ => rfl⟩
                clear x0 x1 x2 x3 y0 y1 y2 y3 hex
                generalize w2.drewN nq = w3 at W3 ⊢
                have B3 := Lib.hid (Below.trans B2.out (W3.out.mono B2.out.size))
                have O3 := Lib.hid (owns_below O2.out W3.out)
                have hs3' := B3.out.size
                obtain ⟨x0, xrest⟩ := CL.out w3 B3.out
                clear xrest
                repeat (first | (at_builtin; refine wpList_append_own _ rfl _ _ 46 rfl w.heap.size 9 i0 (.string ByteArray.empty) 1 16 Tryz.underlying46 hi hz0 hz1 hz2 rfl (by decide) _ _ _ rfl (O3.out.alloc _) ⟨w3.heap.size, 0, none⟩ 1 1 [.string X] rfl rfl (one_new _ _ _) (fun x hx => by simp at hx; subst hx; rfl) (by unfold maxLen; omega) (by omega) (by simp; omega) ?_; intro v' w5 hown' hgrow5 hnil5; have HO5 := Lib.hid hown'; have HB5 := Lib.hid ((B3.out.alloc hs3' (.cells #[.string X] 9)).grown hgrow5 (by simp; omega) (fun j hj => (O3.out.lt j hj).1)); clear hown' hgrow5 hnil5) | go_skip | go_guarded | go_step | go_upon)
                clear x0
                go_quiet (fail)
                have W6 : Hid (Below w5.heap.size w5 (w5.drewN nq)) := Lib.hid ⟨rfl, rfl, rfl, Nat.le_refl _, fun _ _ => rfl⟩
                generalize w5.drewN nq = w6 at W6 ⊢
                have B6 := Lib.hid (Below.trans HB5.out (W6.out.mono HB5.out.size))
                have O6 := Lib.hid (owns_below HO5.out W6.out)
                repeat (first | go_skip | go_guarded | go_step | go_upon)
                refine ⟨⟨⟨a', ca', xr, b', cb', yr, told ++ [x.path], v'⟩, by simp only []; rw [HQ1.out], by simp only []; rw [HQ2.out], rfl, by simp only [List.length_append, List.length_nil, List.length_cons]; have := HN1.out; have := HN2.out; have := HQ1.out; have := HQ2.out; omega, DoN.out v' w6 HEz.out HXY.out ?_ B6.out⟩, by simp [slLen]; have := HN1.out; have := HN2.out; omega⟩
                rw [List.length_append, List.length_singleton, List.map_append, List.map_singleton, HXt.out]
                exact O6.out
            · have HGt : Hid (ordL2 x y) := Lib.hid (by unfold ordL2; rw [HZ.out]; decide)
              have D5 := Lib.hid d5
              clear d5
              repeat (first | go_skip | go_guarded | go_step | go_upon)
              with_reducible refine wp_region_quiet_below (by kernel_rfl) (by kernel_rfl) ?_
              repeat (go_big_quiet_step (first | (go_at_call 32; exact D5.out _ _)))
              refine wpQuiet_nil ?_
              intro _ hw'
              obtain ⟨⟨dq, osq⟩, hw''⟩ := hw'
              subst hw''
              have W2 : Hid (Below wo.heap.size wo (Go.Sort.grow (redrawn wo dq) osq)) := Lib.hid (below_regrown wo dq osq)
              clear fx fy x0 x1 x2 x3 y0 y1 y2 y3
              generalize Go.Sort.grow (redrawn wo dq) osq = w2 at W2 ⊢
              have B2 := Lib.hid (Below.trans HBo.out (W2.out.mono HBo.out.size))
              have O2 := Lib.hid (owns_below HOwn.out W2.out)
              have hs2 := B2.out.size
              obtain ⟨x0, x1, x2, x3, y0, y1, y2, y3⟩ := CL.out w2 B2.out
              repeat (first | (at_builtin; refine wpList_append_own _ rfl _ _ 46 rfl w.heap.size 9 i0 (.string ByteArray.empty) 1 16 Tryz.underlying46 hi hz0 hz1 hz2 rfl (by decide) _ _ _ rfl (O2.out.alloc _) ⟨w2.heap.size, 0, none⟩ 1 1 [.string Y] rfl rfl (one_new _ _ _) (fun x hx => by simp at hx; subst hx; rfl) (by unfold maxLen; omega) (by omega) (by simp; omega) ?_; intro v' w5 hown' hgrow5 hnil5; have HO5 := Lib.hid hown'; have HB5 := Lib.hid ((B2.out.alloc hs2 (.cells #[.string Y] 9)).grown hgrow5 (by simp; omega) (fun j hj => (O2.out.lt j hj).1)); clear hown' hgrow5 hnil5) | go_skip | go_guarded | go_step | go_upon)
              refine ⟨⟨⟨some ⟨g1, o1, none⟩, c1, x :: xr, b', cb', yr, told ++ [y.path], v'⟩, by simp only [List.length_cons]; rw [HQ1.out, HN1.out], by simp only []; rw [HQ2.out], rfl, by simp only [List.length_append, List.length_nil, List.length_cons]; have := HN1.out; have := HN2.out; have := HQ1.out; have := HQ2.out; omega, DoB.out v' w5 HGt.out ?_ HB5.out⟩, by simp [slLen]; have := HN2.out; omega⟩
              rw [List.length_append, List.length_singleton, List.map_append, List.map_singleton, HYt.out]
              exact HO5.out
    · have hFb : ((F : Int) != 0) = true := by simp; omega
      have HF := Lib.hid (differ_bad (a := A) (b := B) (.inr (by cases ht : treeB B with | false => rfl | true => exact absurd (hF1.2 ht) f1)))
      clear e1 f1 hE1 hF1
      go_enter Tryz.func17, Tryz.ntmps17
      repeat (first
        | (go_at_call_of 29 (Value.slice ao n ca); refine C1.out.mono ?_; rintro r w1 ⟨rfl, hb⟩; simp only []; have B1 := Lib.hid hb; clear hb)
        | (go_at_call_of 29 (Value.slice bo m cb); refine (C2.out _ B1.out).mono ?_; rintro r w2 ⟨rfl, hb⟩; simp only []; have B2 := Lib.hid (Below.trans B1.out (hb.mono B1.out.size)); clear hb)
        | go_skip | go_guarded | go_step | go_upon)
      go_ret
      exact DiffPost.nil HF.out B2.out
  · have hEb : ((E : Int) != 0) = true := by simp; omega
    have HF := Lib.hid (differ_bad (a := A) (b := B) (.inl (by cases ht : treeB A with | false => rfl | true => exact absurd (hE1.2 ht) e1)))
    clear e1 hE1 hF1
    go_enter Tryz.func17, Tryz.ntmps17
    repeat (first
      | (go_at_call_of 29 (Value.slice ao n ca); refine C1.out.mono ?_; rintro r w1 ⟨rfl, hb⟩; simp only []; have B1 := Lib.hid hb; clear hb)
      | go_skip | go_guarded | go_step | go_upon)
    go_ret
    exact DiffPost.nil HF.out B1.out
end TG
end Go.Proofs.YtechekdiadpmoaaGreatDoor
