/- Layer 9: the contract of the program's Bare. -/
import Derived.Test.YtfkaackhikbbkaaGreatDoorMg1
import Derived.Test.YtfkaackhikbbkaaGreatDoorArClone
import Derived.Test.YtfkaackhikbbkaaGreatDoorArWide
import Derived.Test.YtfkaackhikbbkaaGreatDoorArQSum
import Derived.Test.YtfkaackhikbbkaaGreatDoorArQHex
namespace Go.Proofs.YtfkaackhikbbkaaGreatDoor
open Go.RowKit Go.Lib Go.BigFrame
namespace AB
open OM TP TM TG TW TR

/-- A node made bare. -/
def bareF (n : Nd) : Nd := if n.kind = 2 then n else { n with data := HR.hexL (HS.shaL n.data) }
def bareK (v : List Nd) (k : Nat) : List Nd := (v.take k).map (bareF) ++ v.drop k
theorem bareK_zero (v : List Nd) : bareK v 0 = v := by unfold bareK; simp
theorem bareK_end {v : List Nd} {k : Nat} (h : v.length ≤ k) : bareK v k = v.map (bareF) := by
  unfold bareK
  rw [List.take_of_length_le h, List.drop_eq_nil_of_le h, List.append_nil]
theorem bareK_len (v : List Nd) (k : Nat) : (bareK v k).length = v.length := by
  unfold bareK
  rw [List.length_append, List.length_map, List.length_take, List.length_drop]
  omega
theorem bareK_two {v : List Nd} {k : Nat} {x : Nd} (hx : v[k]? = some x) : bareK v k = (v.take k).map (bareF) ++ x :: v.drop (k + 1) ∧ bareK v (k + 1) = (v.take k).map (bareF) ++ bareF x :: v.drop (k + 1) ∧ ((v.take k).map (bareF)).length = k := by
  obtain ⟨hk, e⟩ := List.getElem?_eq_some_iff.1 hx
  refine ⟨?_, ?_, by rw [List.length_map, List.length_take]; omega⟩
  · unfold bareK
    rw [List.drop_eq_getElem_cons hk, e]
  · unfold bareK
    rw [List.take_add_one, hx, Option.toList_some, List.map_append, List.append_assoc]
    rfl
theorem bareK_at {v : List Nd} {k : Nat} {x : Nd} (hx : v[k]? = some x) : (bareK v k)[k]? = some x := by
  obtain ⟨e, _, hl⟩ := bareK_two hx
  rw [e, List.getElem?_append_right (by omega), hl, Nat.sub_self]
  rfl
theorem bareK_dir {v : List Nd} {k : Nat} {x : Nd} (hx : v[k]? = some x) (h : x.kind = 2) : bareK v (k + 1) = bareK v k := by
  obtain ⟨e1, e2, _⟩ := bareK_two hx
  have : bareF x = x := by unfold bareF; rw [if_pos h]
  rw [e1, e2, this]
theorem bareK_data {v : List Nd} {k : Nat} {x : Nd} (hx : v[k]? = some x) (h : x.kind ≠ 2) : nodesC (bareK v (k + 1)) = (nodesC (bareK v k)).set (k * 4 + 2) (txt (HR.hexL (HS.shaL x.data))) := by
  obtain ⟨e1, e2, hl⟩ := bareK_two hx
  have : bareF x = { x with data := HR.hexL (HS.shaL x.data) } := by unfold bareF; rw [if_neg h]
  rw [e1, e2, this, nodes_app, nodes_app, List.set_append_right _ _ (by rw [nodes_len, hl]; omega), nodes_len, hl, Nat.add_sub_cancel_left]
  rfl
theorem be4_len (n : Nat) : (HS.be4 n).length = 4 := by simp [HS.be4]
def BarePost (ts : List Nd) (w : World) (r : Ending) (w' : World) : Prop :=
  if treeB ts = true then ∃ v, r = .returned (.tuple #[v, .int .i64 0]) ∧ w'.ownsRow w.heap.size 25 4 v ts.length (nodesC (ts.map bareF)) ∧ Below w.heap.size w w'
  else r = .returned (.tuple #[.slice none 0 0, .int .i64 60]) ∧ Below w.heap.size w w'
set_option maxRecDepth 100000 in
set_option maxHeartbeats 6400000 in
theorem bare_any (ao : Option Addr) (ca : Nat) (ts : List Nd) (w : World) (he : NF.Env w) (hq : HQ.Env w) (h : Wide w ao ca ts) :
    Calls Tryz.prog 10 #[.slice ao ts.length ca] w (BarePost ts w) := by
  have CC := Lib.hid (h.check he)
  unfold BarePost
  cases ht : treeB ts with
  | false =>
    have e0 : checkG ts = 60 := check_no ht
    rw [e0] at CC
    obtain ⟨n, hn⟩ : ∃ n, ts.length = n := ⟨_, rfl⟩
    rw [hn] at CC ⊢
    simp only [Bool.false_eq_true, ↓reduceIte]
    clear h he hq hn ht e0
    go_enter Tryz.func10, Tryz.ntmps10
    repeat (first | (go_at_call 25; refine CC.out.mono ?_; rintro r w1 ⟨rfl, hb⟩; simp only []; have B1 := Lib.hid hb; clear hb) | go_skip | go_guarded | go_step | go_upon)
    go_ret2
    exact ⟨rfl, B1.out⟩
  | true =>
    have e0 : checkG ts = 0 := check_yes ht
    rw [e0] at CC
    simp only [↓reduceIte]
    have t := (tree_iff ts).1 ht
    have HLen := Lib.hid t.len
    have HSm := Lib.hid (small_tree t)
    have HLay := Lib.hid h.lay
    have HTab := Lib.hid hq
    have CL : Hid (∀ W, Below w.heap.size w W → Calls Tryz.prog 26 #[.slice ao ts.length ca] W (AtPost ts W)) := Lib.hid (fun W hW => clone_any ao ca ts W (h.lay.below hW) h.no t.len)
    obtain ⟨m, hm⟩ : ∃ m, ts.length = m := ⟨_, rfl⟩
    have HM := Lib.hid hm
    rw [hm] at CC CL HLen ⊢
    clear h he hq ht e0 t hm
    go_enter Tryz.func10, Tryz.ntmps10
    repeat (first | (go_at_call 25; fail) | go_skip | go_guarded | go_step | go_upon)
    refine CC.out.mono ?_
    rintro r w1 ⟨rfl, hb⟩
    simp only []
    have B1 := Lib.hid hb
    clear hb
    repeat (first | (go_at_call 26; fail) | go_skip | go_guarded | go_step | go_upon)
    refine (CL.out _ B1.out).mono ?_
    rintro r w2 ⟨u, rfl, hown, hb⟩
    simp only []
    have B2 := Lib.hid (B1.out.trans (hb.mono B1.out.size))
    rw [HM.out] at hown
    obtain ⟨ao5, c5, rfl, _⟩ := owns_view hown
    have HO2 := Lib.hid (owns_base hown w.heap.size B1.out.size)
    have hmz : (m : Int) ≤ 1000 := by have := HLen.out; omega
    clear hb hown
    repeat (first | go_skip | go_guarded | go_step | go_upon)
    go_loopw [14] (fun s14 wr => ∃ k : Nat, s14 = .int .i64 k ∧ k ≤ m ∧ wr.ownsRow w.heap.size 25 4 (.slice ao5 m c5) m (nodesC (bareK ts k)) ∧ Below w.heap.size w wr) (fun s14 _ => m - (Go.RowKit.intOf s14).toNat)
    case atStart => exact ⟨0, rfl, Nat.zero_le _, by rw [bareK_zero]; exact HO2.out, B2.out⟩
    case round =>
      obtain ⟨k, rfl, hk, ho, hb⟩ := hrel
      have HB := Lib.hid hb
      by_cases hlt : k < m
      · have hkz : (k : Int) < m := by omega
        obtain ⟨x, hx⟩ : ∃ x, ts[k]? = some x := ⟨ts[k]'(by rw [HM.out]; exact hlt), List.getElem?_eq_getElem _⟩
        obtain ⟨g', o', rfl, hg', hcell⟩ := (HLay.out.below hb) (by rw [HM.out]; omega)
        obtain ⟨c0, c1, c2, c3⟩ := hcell k x hx
        obtain ⟨X, hX, _⟩ := txt_of x.path
        obtain ⟨D, hD, hDd⟩ := txt_of x.data
        obtain ⟨xk, hxk⟩ : ∃ z, x.kind = z := ⟨_, rfl⟩
        obtain ⟨xm, hxm⟩ : ∃ z, x.mode = z := ⟨_, rfl⟩
        rw [hX] at c0
        rw [hxk] at c1
        rw [hD] at c2
        rw [hxm] at c3
        obtain ⟨wa, hwa⟩ : ∃ wa, wr.alloc (.cells #[.string X, .int .i64 xk, .string D, .int .i64 xm] 25) = wa := ⟨_, rfl⟩
        have bwa : Below wr.heap.size wr wa := by rw [← hwa]; exact (Below.refl _ _).alloc (Nat.le_refl _) _
        obtain ⟨a0, a1, a2, a3⟩ := box4 wr (.string X) (.int .i64 xk) (.string D) (.int .i64 xm) 25
        rw [hwa] at a0 a1 a2 a3
        have HBa := Lib.hid (HB.out.trans (bwa.mono HB.out.size))
        have HOa := Lib.hid (owns_below ho bwa)
        have HDs := Lib.hid (HSm.out x (List.mem_of_getElem? hx)).2
        have HX := Lib.hid hx
        by_cases hk2 : xk = 2
        · subst hk2
          have HK := Lib.hid (bareK_dir hx hxk)
          clear hb ho hcell hx hX hD hDd hlt bwa
          repeat (first | go_skip | go_guarded | go_step | go_upon)
          exact ⟨⟨k + 1, by go_num, by omega, by rw [HK.out]; exact HOa.out, HBa.out⟩, by simp [Go.RowKit.intOf]; omega⟩
        · have hkb : (xk != 2) = true := by simpa using hk2
          have HK := Lib.hid (bareK_data hx (by rw [hxk]; exact hk2))
          have hDl : D.size ≤ 140737488355328 := by rw [Lib.size_eq, hDd]; have := HDs.out; omega
          have CS : Hid (∀ W, Below w.heap.size w W → Calls Tryz.prog 28 #[.string D] W fun r w' => r = .returned (.string ⟨(HS.shaL x.data).toArray⟩) ∧ Below W.heap.size W w') := Lib.hid (fun W hW => by
            have := HQ.sum_any D W (HQ.Env.below HTab.out hW) hDl
            rw [hDd] at this
            exact this)
          obtain ⟨F, hF⟩ : ∃ F : ByteArray, ⟨(HS.shaL x.data).toArray⟩ = F := ⟨_, rfl⟩
          obtain ⟨G, hG⟩ : ∃ G : ByteArray, ⟨(HR.hexL (HS.shaL x.data)).toArray⟩ = G := ⟨_, rfl⟩
          have hFs : 2 * F.size ≤ 140737488355328 := by
            rw [Lib.size_eq, ← hF]
            have : (HS.shaL x.data).length ≤ 1000 := by
              rw [HQ.sha_cut]
              have : ∀ l : List Nat, (l.flatMap HS.be4).length = 4 * l.length := by
                intro l
                induction l with
                | nil => rfl
                | cons a l ih => rw [List.flatMap_cons, List.length_append, be4_len, ih, List.length_cons]; omega
              rw [this]
              simp [HQ.stL]
            simpa using (by omega : 2 * (HS.shaL x.data).length ≤ 140737488355328)
          have CH : Hid (∀ W, Calls Tryz.prog 27 #[.string F] W fun r w' => r = .returned (.string G) ∧ Below W.heap.size W w') := Lib.hid (fun W => by
            have := HQ.hex_any F W hFs
            rw [show F.data.toList = HS.shaL x.data by rw [← hF], hG] at this
            exact this)
          rw [hF] at CS
          have HG := Lib.hid hG
          clear hb ho hcell hx hX hD hDd hlt bwa hF hG hFs hDl
          repeat (first | (go_at_call 28; fail) | go_skip | go_guarded | go_step | go_upon)
          refine (CS.out _ HBa.out).mono ?_
          rintro r w5 ⟨rfl, hb5⟩
          simp only []
          have B5 := Lib.hid (HBa.out.trans (hb5.mono HBa.out.size))
          have HO5 := Lib.hid (owns_below HOa.out hb5)
          clear hb5
          repeat (first | (go_at_call 27; fail) | go_skip | go_guarded | go_step | go_upon)
          refine (CH.out _).mono ?_
          rintro r w6 ⟨rfl, hb6⟩
          simp only []
          have B6 := Lib.hid (B5.out.trans (hb6.mono B5.out.size))
          have ho6 := owns_below HO5.out hb6
          clear hb6
          obtain ⟨ao6, c6, e6, hview⟩ := owns_view ho6
          obtain ⟨g, hao, hg, hbg, hcell6⟩ := hview (by omega)
          simp only [Value.slice.injEq, true_and] at e6
          obtain ⟨rfl, rfl⟩ := e6
          subst hao
          have hlen6 : (nodesC (bareK ts k)).length = m * 4 := by rw [nodes_len, bareK_len, HM.out]
          have c6' : ∃ z, w6.cell? ⟨g, k * 4 + 2, none⟩ = some z := ⟨_, (hcell6 (k * 4 + 2) (by omega)).trans (List.getElem?_eq_getElem (by rw [hlen6]; omega))⟩
          obtain ⟨z6, hz6⟩ := c6'
          have hfz := ho6.frozenAt (k * 4 + 2)
          have HSt := Lib.hid (ho6.stored (k * 4 + 2) (.string G))
          have HBg := Lib.hid hbg
          clear ho6 hview hcell6 hlen6
          repeat (first | go_skip | go_guarded | go_step | go_upon)
          refine ⟨⟨k + 1, by go_num, by omega, ?_, B6.out.setCell (p := ⟨g, k * 4 + 2, none⟩) HBg.out _⟩, by simp [Go.RowKit.intOf]; omega⟩
          rw [HK.out]
          unfold txt
          rw [HG.out]
          exact HSt.out.1
      · have hkz : ¬ (k : Int) < m := by omega
        have HK : Hid (bareK ts k = ts.map bareF) := Lib.hid (bareK_end (by rw [HM.out]; omega))
        have HO := Lib.hid ho
        clear hlt ho hb
        repeat (first | go_skip | go_guarded | go_step | go_upon)
        go_ret2
        refine ⟨_, rfl, ?_, HB.out⟩
        rw [← HK.out]
        exact HO.out
end AB
end Go.Proofs.YtfkaackhikbbkaaGreatDoor
