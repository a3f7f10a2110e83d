/- Layer 6: the contract of the document's Names (cut of stage 6). -/
import Derived.Test.YtmpmmebmhffaeaaGreatDoorQRcT
import Derived.Test.YtmpmmebmhffaeaaGreatDoorQBase
import Derived.Laws.AppendOwn
import Derived.Laws.OwnMore
set_option linter.all false
set_option maxRecDepth 100000
set_option maxHeartbeats 25600000
namespace Go.Proofs.YtmpmmebmhffaeaaGreatDoor
open Go.RowKit Go.Lib Go.BigFrame
namespace TR
open OM TP TM

theorem infoSt : (Tryz.prog.info? 9).map (fun i => (i.zero, i.size, i.bytes)) = some (some (.string ByteArray.empty), 1, 16) := by kernel_rfl
/-- What Names answers, wherever the names lie. -/
def NamesPost (ts : List Nd) (p : List UInt8) (w : World) (r : Ending) (w' : World) : Prop :=
  ∃ v, r = .returned v ∧ w'.ownsRow w.heap.size 9 1 v (namesL ts p).length ((namesL ts p).map txt) ∧ Below w.heap.size w w'
/-- The names among the first k. -/
def namesK (ts : List Nd) (p : List UInt8) (k : Nat) : List (List UInt8) := ((ts.take k).filter fun n => decide (NP.parentL n.path = p)).map fun n => NP.baseL n.path
theorem namesK_yes {ts : List Nd} {p : List UInt8} {k : Nat} {x : Nd} (hx : ts[k]? = some x) (h : NP.parentL x.path = p) : namesK ts p (k + 1) = namesK ts p k ++ [NP.baseL x.path] := by
  unfold namesK
  rw [List.take_add_one, hx, Option.toList_some, List.filter_append, List.map_append]
  simp [h]
theorem namesK_no {ts : List Nd} {p : List UInt8} {k : Nat} {x : Nd} (hx : ts[k]? = some x) (h : NP.parentL x.path ≠ p) : namesK ts p (k + 1) = namesK ts p k := by
  unfold namesK
  rw [List.take_add_one, hx, Option.toList_some, List.filter_append, List.map_append]
  simp [h]
theorem namesK_len (ts : List Nd) (p : List UInt8) (k : Nat) : (namesK ts p k).length ≤ k := by
  unfold namesK
  rw [List.length_map]
  have h1 := List.length_filter_le (fun n : Nd => decide (NP.parentL n.path = p)) (ts.take k)
  rw [List.length_take] at h1
  omega
theorem names_ok {ts : List Nd} {p : List UInt8} (h1 : treeB ts = true) (h2 : dirB ts p = true) : namesL ts p = namesK ts p ts.length := by
  unfold namesL namesK
  rw [if_pos ⟨h1, h2⟩, List.take_length]
theorem names_bad {ts : List Nd} {p : List UInt8} (h : treeB ts = false ∨ dirB ts p = false) : namesL ts p = [] := by
  unfold namesL
  rw [if_neg]
  rintro ⟨a, b⟩
  rcases h with h | h
  · rw [h] at a; cases a
  · rw [h] at b; cases b
theorem NamesPost.nil {ts : List Nd} {p : List UInt8} {w w' : World} (h : namesL ts p = []) (hb : Below w.heap.size w w') : NamesPost ts p w (.returned (.slice none 0 0)) w' :=
  ⟨_, rfl, by rw [h]; exact World.ownsRow_nil _ _ _ _, hb⟩
set_option maxRecDepth 100000 in
set_option maxHeartbeats 3200000 in
theorem rnames_any (ao : Option Addr) (cap : Nat) (ts : List Nd) (p : List UInt8) (w : World) (h : LayN w ao ts) (hs : Small ts) (hl : ts.length ≤ maxLen) :
    Calls Tryz.prog 32 #[.slice ao ts.length cap, txt p] w (NamesPost ts p w) := by
  obtain ⟨i0, hi, hz0, hz1, hz2⟩ := info_parts infoSt
  have cC := rcheck_any ao cap ts w h hs hl
  have cD := fun W (hW : LayN W ao ts) => rdir_any ao cap ts p W hW hl
  obtain ⟨n, hn⟩ : ∃ n, ts.length = n := ⟨_, rfl⟩
  have HN := Lib.hid hn
  have HL := Lib.hid h
  have HSm := Lib.hid hs
  unfold maxLen at hl
  rw [hn] at hl cC cD ⊢
  have hnz : (n : Int) ≤ 9223372036854775807 := by omega
  unfold txt at cD ⊢
  obtain ⟨S, hS⟩ : ∃ S : ByteArray, ⟨p.toArray⟩ = S := ⟨_, rfl⟩
  have HS : Hid (S.data.toList = p) := Lib.hid (by rw [← hS])
  obtain ⟨E, hE⟩ : ∃ E : Nat, checkE ts = E := ⟨_, rfl⟩
  have hE0 := checkE_zero ts
  rw [hS] at cD ⊢
  rw [hE] at cC hE0
  obtain ⟨b, hb⟩ : ∃ b, dirB ts p = b := ⟨_, rfl⟩
  rw [hb] at cD
  have CC := Lib.hid cC
  have CD := Lib.hid cD
  by_cases hE1 : (E : Int) = 0
  · have hEb : ((E : Int) != 0) = false := by simp [hE1]
    cases b with
    | false =>
      have HF := Lib.hid (names_bad (ts := ts) (.inr hb))
      clear h hn hS hl cC cD hE hs hE0 hb hE1
      go_enter Tryz.func32, Tryz.ntmps32
      repeat (first | (go_at_call 28; refine CC.out.mono ?_; rintro r w1 ⟨rfl, hb⟩; simp only []; have B1 := Lib.hid hb; clear hb) | (go_at_call 47; refine (CD.out _ (HL.out.below B1.out)).mono ?_; rintro r w2 ⟨rfl, hb⟩; simp only []; have B2 := Lib.hid (Below.trans B1.out (hb.mono B1.out.size)); clear hb) | go_skip | go_guarded | go_step | go_upon)
      go_ret
      exact NamesPost.nil HF.out B2.out
    | true =>
      have h1000 : n ≤ 1000 := by
        have := ((tree_iff ts).1 (hE0.1 hE1)).len
        omega
      have HF := Lib.hid (names_ok (hE0.1 hE1) hb)
      clear h hn hS hl cC cD hE hs hE0 hb hE1
      go_enter Tryz.func32, Tryz.ntmps32
      repeat (first | (go_at_call 28; refine CC.out.mono ?_; rintro r w1 ⟨rfl, hb⟩; simp only []; have B1 := Lib.hid hb; clear hb) | (go_at_call 47; refine (CD.out _ (HL.out.below B1.out)).mono ?_; rintro r w2 ⟨rfl, hb⟩; simp only []; have B2 := Lib.hid (Below.trans B1.out (hb.mono B1.out.size)); clear hb) | go_skip | go_guarded | go_step | go_upon)
      go_loopw [5, 6] (fun s5 s6 wr => ∃ k : Nat, s6 = .int .i64 k ∧ k ≤ n ∧ wr.ownsRow w.heap.size 9 1 s5 (namesK ts p k).length ((namesK ts p k).map txt) ∧ Below w.heap.size w wr) (fun _ s6 _ => n - (Go.RowKit.intOf s6).toNat)
      case atStart => exact ⟨0, rfl, Nat.zero_le _, World.ownsRow_nil _ _ _ _, B2.out⟩
      case round =>
        obtain ⟨k, rfl, hk, ho, hb⟩ := hrel
        have HO := Lib.hid ho
        have HB := Lib.hid hb
        have hbs := hb.size
        have HLr := Lib.hid (HL.out.below hb)
        have HKl := Lib.hid (namesK_len ts p k)
        clear ho hb
        by_cases hlt : k < n
        · have hkz : (k : Int) < n := by omega
          obtain ⟨g, o, rfl, hg, hcell⟩ := HLr.out (by rw [HN.out]; omega)
          obtain ⟨x, hx⟩ : ∃ x, ts[k]? = some x := ⟨ts[k]'(by rw [HN.out]; exact hlt), List.getElem?_eq_getElem _⟩
          have hmem := List.mem_of_getElem? hx
          obtain ⟨hs1, _⟩ := HSm.out x hmem
          have HNd := Lib.hid (hcell k x hx)
          have c0 := HNd.out.p
          unfold txt at c0
          obtain ⟨X, hX⟩ : ∃ X : ByteArray, ⟨x.path.toArray⟩ = X := ⟨_, rfl⟩
          have hXd : X.data.toList = x.path := by rw [← hX]
          have hXs : X.size ≤ 1048576 := by rw [Lib.size_eq, hXd]; exact hs1
          have CL : Hid (∀ W, Below wr.heap.size wr W → W.cell? ⟨g, o + k * 4, none⟩ = some (.string X)) := Lib.hid (fun W hW => by
            have := (HNd.out.below hg hW).p
            unfold txt at this
            rw [hX] at this
            exact this)
          rw [hX] at c0
          obtain ⟨P, hP⟩ : ∃ P : ByteArray, ⟨(NP.parentL x.path).toArray⟩ = P := ⟨_, rfl⟩
          have C3 : Hid (∀ W, Calls Tryz.prog 48 #[.string X] W fun r w' => r = .returned (.string P) ∧ Below W.heap.size W w') := Lib.hid (fun W => by
            refine (R1.RT.rparent_any X W hXs).mono ?_
            rintro r w' ⟨t, rfl, ht, hb⟩
            rw [hXd] at ht
            exact ⟨by rw [← hP, ← ht, show (⟨t.data.toList.toArray⟩ : ByteArray) = t by apply ByteArray.ext; simp], hb⟩)
          obtain ⟨B, hB⟩ : ∃ B : ByteArray, ⟨(NP.baseL x.path).toArray⟩ = B := ⟨_, rfl⟩
          have HBt : Hid (txt (NP.baseL x.path) = .string B) := Lib.hid (by unfold txt; rw [hB])
          have C4 : Hid (∀ W, Calls Tryz.prog 51 #[.string X] W fun r w' => r = .returned (.string B) ∧ Below W.heap.size W w') := Lib.hid (fun W => by
            refine (R1.RT.rbase_any X W hXs).mono ?_
            rintro r w' ⟨t, rfl, ht, hb⟩
            rw [hXd] at ht
            exact ⟨by rw [← hB, ← ht, show (⟨t.data.toList.toArray⟩ : ByteArray) = t by apply ByteArray.ext; simp], hb⟩)
          have hPd : P.data.toList = NP.parentL x.path := by rw [← hP]
          by_cases he : NP.parentL x.path = p
          · have hPS : (P.toList == S.toList) = true := by rw [Lib.toList_data, Lib.toList_data, hPd, HS.out, he]; simp
            have HK := Lib.hid (namesK_yes hx he)
            clear hX hXd hXs hP hB hPd he hx hmem hs1 hcell
            repeat (first
              | (go_at_call 48; refine (C3.out _).mono ?_; rintro r w3 ⟨rfl, hb⟩; simp only []; have e3 := CL.out _ hb; have W3 := Lib.hid hb; clear hb)
              | (go_at_call 51; refine (C4.out _).mono ?_; rintro r w4 ⟨rfl, hb⟩; simp only []; have W4 := Lib.hid (Below.trans W3.out (hb.mono W3.out.size)); have HO4 := Lib.hid (owns_below HO.out W4.out); have HB4 := Lib.hid (Below.trans HB.out (W4.out.mono hbs)); have hs4 := HB4.out.size; clear hb)
              | (at_builtin; refine wpList_append_own _ rfl _ _ 59 rfl w.heap.size 9 i0 (.string ByteArray.empty) 1 16 Tryz.underlying59 hi hz0 hz1 hz2 rfl (by decide) _ _ _ rfl (HO4.out.alloc _) ⟨w4.heap.size, 0, none⟩ 1 1 [.string B] rfl rfl (one_new _ _ _) (fun x hx => by simp at hx; subst hx; rfl) (by have := HKl.out; unfold maxLen; omega) (by have := HKl.out; omega) (by simp; omega) ?_; intro v' w5 hown' hgrow5 hnil5; have HO5 := Lib.hid hown'; have HB5 := Lib.hid ((HB4.out.alloc hs4 (.cells #[.string B] 9)).grown hgrow5 (by simp; omega) (fun j hj => (HO4.out.lt j hj).1)); clear hown' hgrow5 hnil5)
              | go_skip | go_guarded | go_step | go_upon)
            refine ⟨⟨k + 1, by go_num, by omega, ?_, HB5.out⟩, by simp [Go.RowKit.intOf]; omega⟩
            rw [HK.out, List.length_append, List.length_singleton, List.map_append, List.map_singleton, HBt.out]
            exact HO5.out
          · have hPS : (P.toList == S.toList) = false := by rw [Lib.toList_data, Lib.toList_data, hPd, HS.out]; simpa using he
            have HK := Lib.hid (namesK_no hx he)
            clear hX hXd hXs hP hB hPd he hx hmem hs1 hcell
            repeat (first
              | (go_at_call 48; refine (C3.out _).mono ?_; rintro r w3 ⟨rfl, hb⟩; simp only []; have W3 := Lib.hid hb; have HO3 := Lib.hid (owns_below HO.out hb); clear hb)
              | go_skip | go_guarded | go_step | go_upon)
            refine ⟨⟨k + 1, by go_num, by omega, ?_, Below.trans HB.out (W3.out.mono hbs)⟩, by simp [Go.RowKit.intOf]; omega⟩
            rw [HK.out]
            exact HO3.out
        · have hkz : ¬ (k : Int) < n := by omega
          have hkn : k = n := by omega
          have HK : Hid (namesL ts p = namesK ts p k) := Lib.hid (by rw [HF.out, HN.out, hkn])
          clear hlt hkn
          repeat (first | go_skip | go_guarded | go_step | go_upon)
          go_ret
          exact ⟨_, rfl, by rw [HK.out]; exact HO.out, HB.out⟩
  · have hEb : ((E : Int) != 0) = true := by simp; omega
    have HF := Lib.hid (names_bad (ts := ts) (p := p) (.inl (by cases ht : treeB ts with | false => rfl | true => exact absurd (hE0.2 ht) hE1)))
    clear h hn hS hl cC cD hE hs hE0 hb hE1
    go_enter Tryz.func32, Tryz.ntmps32
    repeat (first | (go_at_call 28; refine CC.out.mono ?_; rintro r w1 ⟨rfl, hb⟩; simp only []; have B1 := Lib.hid hb; clear hb) | go_skip | go_guarded | go_step | go_upon)
    go_ret
    exact NamesPost.nil HF.out B1.out
end TR
end Go.Proofs.YtmpmmebmhffaeaaGreatDoor
