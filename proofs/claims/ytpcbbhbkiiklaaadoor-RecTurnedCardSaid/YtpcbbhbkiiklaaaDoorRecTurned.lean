/- Layer 5: the walk of RecTurned. -/
import Derived.Test.YtpcbbhbkiiklaaaDoorRecReads
import Derived.Test.YtpcbbhbkiiklaaaDoorBytes
namespace Go.Proofs.YtpcbbhbkiiklaaaDoor
open Go.RowKit Go.Lib Go.BigFrame
namespace RF
open HP HS RP OM RQ HR
open HQ (Env crc_any)

/-- Back to a text, with one byte another one. -/
theorem back_text {w : World} {g cap : Nat} {l : List UInt8} (h : Mem8 w g cap l) (k : Nat) (b : UInt8) (hk : k < l.length) (z : Nat) (hz : l.length = z) :
    (convert 43 9 (.slice (some ⟨g, 0, none⟩) z cap)).run Tryd.prog (w.setCell ⟨g, k, none⟩ (.int .u8 (b.toNat : Nat))) = .ok (.string ⟨(l.set k b).toArray⟩) (w.setCell ⟨g, k, none⟩ (.int .u8 (b.toNat : Nat))) := by
  have hs := h.set k hk b
  have h := run_convert_bytes_back (P := Tryd.prog) (w.setCell ⟨g, k, none⟩ (.int .u8 (b.toNat : Nat))) 43 9 5 ⟨g, 0, none⟩ cap (l.set k b) Tryd.underlying43 Tryd.underlying5 Tryd.underlying9 (fun j hj => by
    have hadd : (⟨g, 0, none⟩ : Addr).add j = ⟨g, j, none⟩ := by unfold Addr.add; split <;> simp_all
    rw [hadd]
    exact hs.cells j _ (List.getElem?_eq_getElem hj))
  rw [List.length_set, hz] at h
  exact h
theorem one_turned_set (p : List UInt8) (k : Nat) (c y : UInt8) (h : p.length ≤ MaxP) (hc : (packL p)[k]? = some c) (hy : y ≠ 0) : ∃ e, oneL ((packL p).set k (c ^^^ y)) = (e + 1, []) := by
  have hk := (List.getElem?_eq_some_iff.1 hc).1
  refine one_turned p k (c ^^^ y) h hk ?_
  rw [List.getD_eq_getElem?_getD, hc]
  exact xor_ne hy
set_option maxRecDepth 100000 in
set_option maxHeartbeats 6400000 in
theorem turned_any (p : List UInt8) (n : Int) (y : UInt8) (w : World) (he : Env w) (hp : p.length ≤ maxLen) (h0 : -9223372036854775808 ≤ n) (h1 : n ≤ 9223372036854775807) :
    Calls Tryd.prog 6 #[txt p, .int .i64 n, .int .u8 (y.toNat : Nat)] w fun r w' => r = .returned (.bool true) ∧ Below w.heap.size w w' := by
  have cA := awake_any w he
  have CA := Lib.hid cA
  obtain ⟨S, hS⟩ : ∃ T : ByteArray, ⟨p.toArray⟩ = T := ⟨_, rfl⟩
  obtain ⟨T, hT⟩ : ∃ T : ByteArray, ⟨(packT p).toArray⟩ = T := ⟨_, rfl⟩
  obtain ⟨PE, hPE⟩ : ∃ e : Nat, packE p = e := ⟨_, rfl⟩
  have c1 : ∀ W, Below w.heap.size w W → Calls Tryd.prog 11 #[.string S] W (fun r w' => r = .returned (.tuple #[.string T, .int .i64 (PE : Nat)]) ∧ Below W.heap.size W w') := fun W hW => by
    have h := pack_any p W (he.below hW) hp
    unfold packV txt at h
    rw [hS, hT, hPE] at h
    exact h
  have C1 := Lib.hid c1
  have HE := Lib.hid he
  have yl := y.toNat_lt
  obtain ⟨yn, hyn⟩ : ∃ yn, y.toNat = yn := ⟨_, rfl⟩
  have hyl : (yn : Int) < 256 := by omega
  unfold txt
  rw [hS, hyn]
  clear cA c1 he yl
  by_cases hm : p.length ≤ MaxP
  · have e1 : PE = 0 := by rw [← hPE]; unfold packE; rw [if_pos hm]
    have e2 : packT p = packL p := by unfold packT; rw [if_pos hm]
    subst e1
    obtain ⟨z, hz⟩ : ∃ z, p.length + 8 = z := ⟨_, rfl⟩
    have hTd : T.data.toList = packL p := by rw [← hT, e2]
    have hTs : T.size = z := by rw [Lib.size_eq, hTd, pack_len]; exact hz
    unfold MaxP at hm
    have hzl : (z : Int) ≤ 1048584 := by omega
    by_cases hno : n < 0 ∨ (z : Int) ≤ n ∨ yn = 0
    · clear hp hS hT hPE hm e2 hz hTd hyn
      go_enter Tryd.func6, Tryd.ntmps6
      by_cases hn0 : n < 0
      · repeat (first
          | (go_at_call 8; refine CA.out.mono ?_; rintro r w1 ⟨rfl, hb⟩; simp only []; have B1 := Lib.hid hb; clear hb)
          | (go_at_call 11; refine (C1.out _ B1.out).mono ?_; rintro r w2 ⟨rfl, hb⟩; simp only []; have B2 := Lib.hid (Below.trans B1.out (hb.mono B1.out.size)); clear hb)
          | go_skip | go_guarded | go_step | go_upon)
        go_ret
        exact ⟨rfl, B2.out⟩
      · by_cases hn1 : (z : Int) ≤ n
        · repeat (first
            | (go_at_call 8; refine CA.out.mono ?_; rintro r w1 ⟨rfl, hb⟩; simp only []; have B1 := Lib.hid hb; clear hb)
            | (go_at_call 11; refine (C1.out _ B1.out).mono ?_; rintro r w2 ⟨rfl, hb⟩; simp only []; have B2 := Lib.hid (Below.trans B1.out (hb.mono B1.out.size)); clear hb)
            | go_skip | go_guarded | go_step | go_upon)
          go_ret
          exact ⟨rfl, B2.out⟩
        · have hy0 : yn = 0 := by omega
          subst hy0
          clear hno hyl
          repeat (first
            | (go_at_call 8; refine CA.out.mono ?_; rintro r w1 ⟨rfl, hb⟩; simp only []; have B1 := Lib.hid hb; clear hb)
            | (go_at_call 11; refine (C1.out _ B1.out).mono ?_; rintro r w2 ⟨rfl, hb⟩; simp only []; have B2 := Lib.hid (Below.trans B1.out (hb.mono B1.out.size)); clear hb)
            | go_skip | go_guarded | go_step | go_upon)
          go_ret
          exact ⟨rfl, B2.out⟩
    · obtain ⟨k, rfl⟩ : ∃ k : Nat, n = k := ⟨n.toNat, by omega⟩
      have hn0 : ¬ (k : Int) < 0 := by omega
      have hn1 : ¬ (z : Int) ≤ k := by omega
      have hy0 : ¬ (yn : Int) = 0 := by omega
      have hyb : ((yn : Int) == 0) = false := by simpa using hy0
      obtain ⟨c, hc⟩ : ∃ c, (packL p)[k]? = some c := ⟨(packL p)[k]'(by rw [pack_len]; omega), List.getElem?_eq_getElem _⟩
      have hy : y ≠ 0 := fun e => hy0 (by rw [← hyn, e]; rfl)
      obtain ⟨e, hone⟩ := one_turned_set p k c y hm hc hy
      obtain ⟨X, hX⟩ : ∃ X : ByteArray, ⟨((packL p).set k (c ^^^ y)).toArray⟩ = X := ⟨_, rfl⟩
      obtain ⟨v, hv⟩ : ∃ v : Int, ((e + 1 : Nat) : Int) = v := ⟨_, rfl⟩
      have hv0 : (v != 0) = true := by simp; omega
      have c2 : ∀ W, Below w.heap.size w W → Calls Tryd.prog 17 #[.string X] W (fun r w' => r = .returned (.tuple #[.string ⟨#[]⟩, .int .i64 v]) ∧ Below W.heap.size W w') := fun W hW => by
        have h := one_any ((packL p).set k (c ^^^ y)) W (HE.out.below hW) (by rw [List.length_set, pack_len]; omega)
        unfold oneV txt at h
        rw [hone, hv, hX] at h
        exact h
      have C2 := Lib.hid c2
      have x1 := xor_u8 c y
      rw [hyn] at x1
      have hcl := c.toNat_lt
      obtain ⟨cn, hcn⟩ : ∃ cn, c.toNat = cn := ⟨_, rfl⟩
      have hcnl : (cn : Int) < 256 := by omega
      obtain ⟨xn, hxn⟩ : ∃ xn, (c ^^^ y).toNat = xn := ⟨_, rfl⟩
      rw [hcn, hxn] at x1
      have HTd := Lib.hid hTd
      have HC := Lib.hid hc
      have HX := Lib.hid hX
      have HCN := Lib.hid hcn
      have HXN := Lib.hid hxn
      have HZ := Lib.hid hz
      clear c2 hp hS hT hPE hm e2 hz hTd hno hc hy hone hX hv hyn hcl hcn hxn h0 h1
      go_enter Tryd.func6, Tryd.ntmps6
      repeat (first
        | (go_at_call 8; refine CA.out.mono ?_; rintro r w1 ⟨rfl, hb⟩; simp only []; have B1 := Lib.hid hb; clear hb)
        | (go_at_call 11; refine (C1.out _ B1.out).mono ?_; rintro r w2 ⟨rfl, hb⟩; simp only []; have B2 := Lib.hid (Below.trans B1.out (hb.mono B1.out.size)); clear hb; obtain ⟨g, cap, w3, hconv, hg, hgl, hcap, hcs, hf, hb3⟩ := text_free w2 T; rw [hTs] at hconv hcap; have HM := Lib.hid (show Mem8 w3 g cap (packL p) from HTd.out ▸ ⟨hcs, hf⟩); have cg : w3.cell? ⟨g, k, none⟩ = some (.int .u8 cn) := (by have h := HM.out.cells k c HC.out; rw [HCN.out] at h; exact h); have fg : w3.frozen? ⟨g, k, none⟩ = false := HM.out.free k (by omega); have hcv := back_text HM.out k (c ^^^ y) (by have := (List.getElem?_eq_some_iff.1 HC.out).1; exact this) z (by rw [pack_len]; exact HZ.out); rw [HX.out, HXN.out] at hcv; have HG := Lib.hid hg; have B3 := Lib.hid (Below.trans B2.out (hb3.mono B2.out.size)); clear hg hgl hcs hf hb3)
        | go_skip | go_guarded | go_step | go_upon)
      obtain ⟨w4, hw4⟩ : ∃ w4, w3.setCell ⟨g, k, none⟩ (.int .u8 xn) = w4 := ⟨_, rfl⟩
      have B4 : Hid (Below w.heap.size w w4) := Lib.hid (by rw [← hw4]; exact B3.out.setCell (p := ⟨g, k, none⟩) (by show w.heap.size ≤ g; have := B2.out.size; have := HG.out; omega) _)
      rw [hw4] at hcv ⊢
      trace_state
      repeat (first
        | (go_at_call 17; refine (C2.out _ B4.out).mono ?_; rintro r w5 ⟨rfl, hb⟩; simp only []; have B5 := Lib.hid (Below.trans B4.out (hb.mono B4.out.size)); clear hb)
        | go_skip | go_guarded | go_step | go_upon)
      go_ret
      exact ⟨rfl, B5.out⟩
  · have e1 : PE = 32 := by rw [← hPE]; unfold packE; rw [if_neg hm]
    have e2 : packT p = [] := by unfold packT; rw [if_neg hm]
    have hTe : T.toList.isEmpty = true := by rw [Lib.toList_data, ← hT, e2]; rfl
    subst e1
    clear hp hS hT hPE hm e2 hyn
    go_enter Tryd.func6, Tryd.ntmps6
    repeat (first
      | (go_at_call 8; refine CA.out.mono ?_; rintro r w1 ⟨rfl, hb⟩; simp only []; have B1 := Lib.hid hb; clear hb)
      | (go_at_call 11; refine (C1.out _ B1.out).mono ?_; rintro r w2 ⟨rfl, hb⟩; simp only []; have B2 := Lib.hid (Below.trans B1.out (hb.mono B1.out.size)); clear hb)
      | go_skip | go_guarded | go_step | go_upon)
    go_ret
    exact ⟨rfl, B2.out⟩
end RF
end Go.Proofs.YtpcbbhbkiiklaaaDoor
