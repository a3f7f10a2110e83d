/- Layer 5: the walk of RecCut. -/
import Derived.Test.YtpcbbhbkiiklaaaDoorRecBack
namespace Go.Proofs.YtpcbbhbkiiklaaaDoor
open Go.RowKit Go.Lib Go.BigFrame
namespace RF
open HP HS RP OM RQ HR
open HQ (Env crc_any)

theorem add_zero_addr (a : Addr) : a.add 0 = a := by
  unfold Addr.add
  split <;> simp_all
/-- A list's beginning. -/
theorem sl_list (ao : Option Addr) (n k cap : Nat) (W : World) (h : k ≤ cap) : (Instr.slice 22 (.slice ao n cap) none (some (.int .i64 (k : Nat))) none).run Tryd.prog W = .ok (.slice ao k cap) W := by
  rw [run_slice_h W 22 ao n cap (show Tryd.prog.underlying 22 = some (.slice (Tryd.prog.elem 22)) by kernel_rfl) .i64 k (by omega) (by omega)]
  obtain ⟨s, hs⟩ : ∃ s, (sizeOf (Tryd.prog.elem 22)).run Tryd.prog W = .ok s W := ⟨1, by simp [go_sem]⟩
  rw [hs]
  simp only [Result.andThen, sliced, Int.toNat_natCast, Nat.sub_zero, Nat.zero_mul]
  congr 2
  split
  · rfl
  · cases ao with
    | none => rfl
    | some a => simp [add_zero_addr]
set_option maxRecDepth 100000 in
set_option maxHeartbeats 6400000 in
theorem cut_any (ao : Option Addr) (cap : Nat) (ls : List (List UInt8)) (c : Int) (w : World) (he : Env w) (h : Lay w ao ls) (hcap : ls.length ≤ cap) (hm : (joined ls).length ≤ 1073741824) (h0 : -9223372036854775808 ≤ c) (h1 : c ≤ 9223372036854775807) :
    Calls Tryd.prog 7 #[.slice ao ls.length cap, .int .i64 c] w fun r w' => r = .returned (.bool true) ∧ Below w.heap.size w w' := by
  obtain ⟨TJ, hTJ⟩ : ∃ T : ByteArray, ⟨(joinT ls).toArray⟩ = T := ⟨_, rfl⟩
  obtain ⟨JE, hJE⟩ : ∃ e : Nat, joinE ls = e := ⟨_, rfl⟩
  have eJ : joinV ls = .returned (.tuple #[.string TJ, .int .i64 (JE : Nat)]) := by unfold joinV txt; rw [hTJ, hJE]
  have CA := Lib.hid (awake_any w he)
  obtain ⟨n, hn⟩ : ∃ n, ls.length = n := ⟨_, rfl⟩
  have hnm : n ≤ 1073741824 := by have := joined_len ls; omega
  have c1 : ∀ W, Below w.heap.size w W → Calls Tryd.prog 9 #[.slice ao n cap] W (fun r w' => r = .returned (.tuple #[.string TJ, .int .i64 (JE : Nat)]) ∧ Below W.heap.size W w') := fun W hW => by
    have h := join_any ao cap ls W (he.below hW) (h.below hW) hm
    rw [eJ, hn] at h
    exact h
  have C1 := Lib.hid c1
  have HL := Lib.hid h
  have HEn := Lib.hid he
  have HN := Lib.hid hn
  have HM := Lib.hid hm
  rw [hn] at hcap ⊢
  have hcn : ¬ (cap : Int) < n := by omega
  clear c1 eJ h he hn
  by_cases hok : ∀ p ∈ ls, p.length ≤ MaxP
  · have e1 : JE = 0 := by rw [← hJE]; unfold joinE; rw [if_pos hok]
    have e2 : joinT ls = joined ls := by unfold joinT; rw [if_pos hok]
    subst e1
    obtain ⟨jl, hjl⟩ : ∃ jl, (joined ls).length = jl := ⟨_, rfl⟩
    have hTJd : TJ.data.toList = joined ls := by rw [← hTJ, e2]
    have hTJs : TJ.size = jl := by rw [Lib.size_eq, hTJd]; exact hjl
    have hjlz : (jl : Int) ≤ 1073741824 := by omega
    by_cases hno : c < 0 ∨ (jl : Int) < c
    · clear hTJ hJE e2 hjl hTJd hok hm
      go_enter Tryd.func7, Tryd.ntmps7
      by_cases hc0 : c < 0
      · repeat (first
          | (go_at_call 8; refine CA.out.mono ?_; rintro r w1 ⟨rfl, hb⟩; simp only []; have B1 := Lib.hid hb; clear hb)
          | (go_at_call 9; refine (C1.out _ B1.out).mono ?_; rintro r w2 ⟨rfl, hb⟩; simp only []; have B2 := Lib.hid (Below.trans B1.out (hb.mono B1.out.size)); clear hb)
          | go_skip | go_guarded | go_step | go_upon)
        go_ret
        exact ⟨rfl, B2.out⟩
      · have hc1 : (jl : Int) < c := by omega
        repeat (first
          | (go_at_call 8; refine CA.out.mono ?_; rintro r w1 ⟨rfl, hb⟩; simp only []; have B1 := Lib.hid hb; clear hb)
          | (go_at_call 9; refine (C1.out _ B1.out).mono ?_; rintro r w2 ⟨rfl, hb⟩; simp only []; have B2 := Lib.hid (Below.trans B1.out (hb.mono B1.out.size)); clear hb)
          | go_skip | go_guarded | go_step | go_upon)
        go_ret
        exact ⟨rfl, B2.out⟩
    · obtain ⟨d, rfl⟩ : ∃ d : Nat, c = d := ⟨c.toNat, by omega⟩
      have hd0 : ¬ (d : Int) < 0 := by omega
      have hd1 : ¬ (jl : Int) < d := by omega
      obtain ⟨D, hD⟩ : ∃ D, (joined ls).take d = D := ⟨_, rfl⟩
      have hDl : D.length = d := by rw [← hD, List.length_take]; omega
      obtain ⟨k, hk, g1, g2, g3⟩ := cut_go ls D.length d hok (by omega) (by omega)
      obtain ⟨M, hM⟩ : ∃ M, ls.take k = M := ⟨_, rfl⟩
      obtain ⟨K, hK⟩ : ∃ K, (joined M).length = K := ⟨_, rfl⟩
      rw [hD, hM] at g1 g2
      rw [hM] at g3
      obtain ⟨E, hE⟩ : ∃ E, (allGo D.length D).2.2 = E := ⟨_, rfl⟩
      have hA : allL D = (M, K, E) := by
        show allGo D.length D = _
        rw [← g1, ← hE, ← hK, ← g2]
      obtain ⟨a1, a2, a3, a4⟩ := all_say hA
      rw [hDl] at a1 a4
      have hMk : M.length = k := by rw [← hM, List.length_take]; omega
      have hkn : k ≤ n := by rw [← HN.out]; exact hk
      obtain ⟨TD, hTD⟩ : ∃ T : ByteArray, ⟨D.toArray⟩ = T := ⟨_, rfl⟩
      have s1 := sl_to TJ d d rfl (by omega)
      rw [hTJd, hD, hTD] at s1
      have c2 : ∀ W, Below w.heap.size w W → Calls Tryd.prog 13 #[.string TD] W (fun r w' => ∃ ao c, r = .returned (.tuple #[.slice ao k c, .int .i64 (K : Nat), .int .i64 (E : Nat)]) ∧ Lay w' ao M ∧ Below W.heap.size W w') := fun W hW => by
        have h := all_any D W (HEn.out.below hW) (by omega)
        unfold txt at h
        rw [hTD] at h
        rw [← hMk]
        exact h.mono fun r w' h => AllPost.out h hA
      have c3 : ∀ W a1 a2 d1 d2, Lay W a1 M → Lay W a2 M → Calls Tryd.prog 19 #[.slice a1 k d1, .slice a2 k d2] W (fun r w' => r = .returned (.bool true) ∧ Below W.heap.size W w') := fun W a1 a2 d1 d2 h1 h2 => by
        rw [← hMk]
        exact texts_same a1 a2 d1 d2 M W h1 h2 (by unfold maxLen; omega)
      obtain ⟨TU, hTU⟩ : ∃ T : ByteArray, ⟨(joined M).toArray⟩ = T := ⟨_, rfl⟩
      have hTUs : TU.size = K := by rw [← hTU, Lib.size_eq]; exact hK
      have c4 : ∀ W ao c, Below w.heap.size w W → Lay W ao M → Calls Tryd.prog 9 #[.slice ao k c] W (fun r w' => r = .returned (.tuple #[.string TU, .int .i64 0]) ∧ Below W.heap.size W w') := fun W ao c hW hl => by
        have h := join_any ao c M W (HEn.out.below hW) hl (by omega)
        rw [joinV_ok a3, hMk] at h
        unfold txt at h
        rw [hTU] at h
        exact h
      have C2 := Lib.hid c2
      have C3 := Lib.hid c3
      have C4 := Lib.hid c4
      obtain ⟨b, hb1, hb2⟩ : ∃ b : Bool, ((E : Int) == 0) = b ∧ ((K : Int) == (d : Int)) = b := by
        by_cases hE : E = 0
        · have := a4.1 hE
          exact ⟨true, by simp; omega, by simp; omega⟩
        · have : K ≠ d := fun e => hE (a4.2 (by omega))
          exact ⟨false, by simp; omega, by simp; omega⟩
      have hbb : (b != b) = false := by simp
      have hKd : ¬ (d : Int) < K := by omega
      have hkz : ¬ (n : Int) < k := by omega
      have HLM : Hid (∀ W, Below w.heap.size w W → Lay W ao M) := Lib.hid (fun W hW => by rw [← hM]; exact Lay.take (HL.out.below hW) k)
      have hkc : k ≤ cap := by omega
      have hsl := fun W => sl_list ao n k cap W hkc
      have hjd : D.length ≤ 1073741824 := by omega
      have hKz : (K : Int) ≤ 1073741824 := by omega
      by_cases hkn2 : k = n
      · have hKj : K = jl := by rw [← hK, ← hM, List.take_of_length_le (by rw [HN.out]; omega)]; exact hjl
        subst hkn2 hKj
        clear c2 c3 c4 hTJ hJE e2 hjl hTJd hok hm hno hD hDl hk g1 g2 g3 hM hK hE hA a1 a2 a3 a4 hMk hTD hTU hkn hkc hjd h0 h1 hcap hkz
        have hkz : ¬ (k : Int) < k := by omega
        go_enter Tryd.func7, Tryd.ntmps7
        repeat (first
          | (go_at_call 8; refine CA.out.mono ?_; rintro r w1 ⟨rfl, hb⟩; simp only []; have B1 := Lib.hid hb; clear hb)
          | (go_at_call_of 9 (Value.slice ao k cap); refine (C1.out _ B1.out).mono ?_; rintro r w2 ⟨rfl, hb⟩; simp only []; have B2 := Lib.hid (Below.trans B1.out (hb.mono B1.out.size)); clear hb)
          | (go_at_call 13; refine (C2.out _ B2.out).mono ?_; rintro r w3 ⟨ao3, d3, rfl, hl, hb⟩; simp only []; have L3 := Lib.hid hl; have B3 := Lib.hid (Below.trans B2.out (hb.mono B2.out.size)); clear hb hl)
          | (go_at_call 19; refine (C3.out _ _ _ _ _ L3.out (HLM.out _ B3.out)).mono ?_; rintro r w4 ⟨rfl, hb⟩; simp only []; have L4 := Lib.hid (L3.out.below hb); have B4 := Lib.hid (Below.trans B3.out (hb.mono B3.out.size)); clear hb)
          | (go_at_call 9; refine (C4.out _ _ _ B4.out L4.out).mono ?_; rintro r w5 ⟨rfl, hb⟩; simp only []; have B5 := Lib.hid (Below.trans B4.out (hb.mono B4.out.size)); clear hb)
          | go_skip | go_guarded | go_step | go_upon)
        go_ret
        exact ⟨rfl, B5.out⟩
      · obtain ⟨x, hx⟩ : ∃ x, ls[k]? = some x := ⟨ls[k]'(by rw [HN.out]; omega), List.getElem?_eq_getElem _⟩
        have hg := g3 x hx
        have hxm := hok x (List.mem_of_getElem? hx)
        have hxl := len_mem (List.mem_of_getElem? hx)
        rw [pack_len, hK] at hg
        obtain ⟨TX, hTX⟩ : ∃ T : ByteArray, ⟨x.toArray⟩ = T := ⟨_, rfl⟩
        obtain ⟨TP, hTP⟩ : ∃ T : ByteArray, ⟨(packL x).toArray⟩ = T := ⟨_, rfl⟩
        obtain ⟨pl, hpl⟩ : ∃ pl, x.length + 8 = pl := ⟨_, rfl⟩
        have hTPs : TP.size = pl := by rw [← hTP, Lib.size_eq]; show (packL x).length = pl; rw [pack_len, hpl]
        have c5 : ∀ W, Below w.heap.size w W → Calls Tryd.prog 11 #[.string TX] W (fun r w' => r = .returned (.tuple #[.string TP, .int .i64 0]) ∧ Below W.heap.size W w') := fun W hW => by
          have h := pack_any x W (HEn.out.below hW) (by unfold maxLen; omega)
          unfold packV txt at h
          rw [show packT x = packL x by unfold packT; rw [if_pos hxm], show packE x = 0 by unfold packE; rw [if_pos hxm], hTX, hTP] at h
          exact h
        have C5 := Lib.hid c5
        have hkb : ((k : Int) == (n : Int)) = false := by simp; omega
        have hcut : (d : Int) < (K : Int) + pl := by omega
        have hplz : (pl : Int) ≤ 1073741824 := by omega
        have hkz2 : (k : Int) < n := by omega
        have hdz : (d : Int) ≤ 1073741824 := by omega
        obtain ⟨g, o, rfl, _⟩ := HL.out (by rw [HN.out]; omega)
        have HC0 : Hid (∀ W, Below w.heap.size w W → W.cell? ⟨g, o + k, none⟩ = some (.string TX)) := Lib.hid (fun W hW => by
          obtain ⟨g', o', e, _, hc⟩ := (HL.out.below hW) (by rw [HN.out]; omega)
          cases e
          have := hc k x hx
          unfold txt at this
          rw [hTX] at this
          exact this)
        clear c2 c3 c4 c5 hTJ hJE e2 hjl hTJd hok hm hno hD hDl hk g1 g2 g3 hM hK hE hA a1 a2 a3 a4 hMk hTD hTU hkn hkc hjd hTX hTP hpl hx hg hxm hxl h0 h1 hcap hkn2
        go_enter Tryd.func7, Tryd.ntmps7
        repeat (first
          | (go_at_call 8; refine CA.out.mono ?_; rintro r w1 ⟨rfl, hb⟩; simp only []; have B1 := Lib.hid hb; clear hb)
          | (go_at_call_of 9 (Value.slice (some ⟨g, o, none⟩) n cap); refine (C1.out _ B1.out).mono ?_; rintro r w2 ⟨rfl, hb⟩; simp only []; have B2 := Lib.hid (Below.trans B1.out (hb.mono B1.out.size)); clear hb)
          | (go_at_call 13; refine (C2.out _ B2.out).mono ?_; rintro r w3 ⟨ao3, d3, rfl, hl, hb⟩; simp only []; have L3 := Lib.hid hl; have B3 := Lib.hid (Below.trans B2.out (hb.mono B2.out.size)); clear hb hl)
          | (go_at_call 19; refine (C3.out _ _ _ _ _ L3.out (HLM.out _ B3.out)).mono ?_; rintro r w4 ⟨rfl, hb⟩; simp only []; have L4 := Lib.hid (L3.out.below hb); have B4 := Lib.hid (Below.trans B3.out (hb.mono B3.out.size)); clear hb)
          | (go_at_call 9; refine (C4.out _ _ _ B4.out L4.out).mono ?_; rintro r w5 ⟨rfl, hb⟩; simp only []; have B5 := Lib.hid (Below.trans B4.out (hb.mono B4.out.size)); have c0 := HC0.out _ B5.out; clear hb)
          | (go_at_call 11; refine (C5.out _ B5.out).mono ?_; rintro r w6 ⟨rfl, hb⟩; simp only []; have B6 := Lib.hid (Below.trans B5.out (hb.mono B5.out.size)); clear hb)
          | go_skip | go_guarded | go_step | go_upon)
        go_ret
        exact ⟨rfl, B6.out⟩
  · have e1 : JE = 32 := by rw [← hJE]; unfold joinE; rw [if_neg hok]
    have hTe : TJ.toList.isEmpty = true := by rw [Lib.toList_data, ← hTJ]; unfold joinT; rw [if_neg hok]; rfl
    subst e1
    clear hTJ hJE hok
    go_enter Tryd.func7, Tryd.ntmps7
    repeat (first
      | (go_at_call 8; refine CA.out.mono ?_; rintro r w1 ⟨rfl, hb⟩; simp only []; have B1 := Lib.hid hb; clear hb)
      | (go_at_call 9; refine (C1.out _ B1.out).mono ?_; rintro r w2 ⟨rfl, hb⟩; simp only []; have B2 := Lib.hid (Below.trans B1.out (hb.mono B1.out.size)); clear hb)
      | go_skip | go_guarded | go_step | go_upon)
    go_ret
    exact ⟨rfl, B2.out⟩
end RF
end Go.Proofs.YtpcbbhbkiiklaaaDoor
