/- Layer 15: the contract of the document's Read. -/
import Derived.Test.YtbklnijmalnnoaaDoorQLnRr
import Derived.Test.YtbklnijmalnnoaaDoorQLnAw
set_option linter.all false
set_option maxRecDepth 100000
set_option maxHeartbeats 25600000
namespace Go.Proofs.YtbklnijmalnnoaaDoor
open Go.RowKit Go.Lib Go.BigFrame
namespace LN
open HP HS RP LP OM RQ HR RF

/-- The loop's state: what was read, and what is left. -/
def PRq (s0 : List UInt8) (w : World) (s0' s4 _s5 _s6 _s7 : Value) (wr : World) : Prop :=
  ∃ s ls, s0' = txt s ∧ wr.ownsRow w.heap.size 9 1 s4 ls.length (ls.map txt) ∧ Below w.heap.size w wr ∧ readL s0 = (ls ++ (readGo s.length ls.length s).1, (readGo s.length ls.length s).2) ∧ s.length + 12 * ls.length ≤ s0.length
def lenS : Value → Nat
  | .string s => s.size
  | _ => 0
theorem own_lay {w : World} {B : Nat} {v : Value} {ls : List (List UInt8)} (h : w.ownsRow B 9 1 v ls.length (ls.map txt)) : ∃ ao c, v = .slice ao ls.length c ∧ Lay w ao ls ∧ ls.length ≤ c := by
  obtain ⟨ao, c, rfl, hL⟩ := RF.lay_of h
  refine ⟨ao, c, rfl, hL, ?_⟩
  rcases h.2 with ⟨hv, h0⟩ | ⟨g, cap, cur, hv, _, _, hn, _⟩
  · rw [h0]; exact Nat.zero_le _
  · injection hv with _ _ e
    omega
theorem drop_frame2 {n k : Nat} {s p r : List UInt8} (h : nextF n s = some (p, r)) (hk : num4 s 0 = k) : p = (s.drop 12).take k ∧ r = s.drop (12 + k) := by
  unfold nextF at h
  split at h
  · rw [hk] at h
    simp only [Option.some.injEq, Prod.mk.injEq] at h
    exact ⟨h.1.symm, h.2.symm⟩
  · simp at h
set_option maxRecDepth 100000 in
set_option maxHeartbeats 6400000 in
theorem rread_any (s0 : List UInt8) (w : World) (hx : s0.length ≤ 1073741824) :
    Calls Tryd.prog 12 #[txt s0] w (RdPost s0 w) := by
  obtain ⟨i0, hi, hz0, hz1, hz2⟩ := info_parts infoS
  obtain ⟨S0, hS0⟩ : ∃ T : ByteArray, ⟨s0.toArray⟩ = T := ⟨_, rfl⟩
  have HS0 : Hid (Value.string S0 = txt s0) := Lib.hid (by unfold txt; rw [hS0])
  have HX := Lib.hid hx
  rw [← HS0.out]
  clear hS0 hx
  go_enter Tryd.func12, Tryd.ntmps12
  repeat (first | go_skip | go_guarded | go_step | go_upon)
  go_loopw [0, 4, 5, 6, 7] (PRq s0 w) (fun s _ _ _ _ _ => lenS s)
  case atStart => exact ⟨s0, [], HS0.out, World.ownsRow_nil _ _ _ _, Below.refl _ _, by rw [List.nil_append]; rfl, by simp⟩
  case round =>
    obtain ⟨s, ls, rfl, ho, hb, hgo, hlen⟩ := hrel
    have HO := Lib.hid ho
    have HB := Lib.hid hb
    have HG := Lib.hid hgo
    have HLn := Lib.hid hlen
    have hbs := hb.size
    obtain ⟨ao, c, rfl, hL, hcp⟩ := own_lay ho
    have HL := Lib.hid hL
    have HC := Lib.hid hcp
    obtain ⟨n, hnn⟩ : ∃ n, ls.length = n := ⟨_, rfl⟩
    have HNN := Lib.hid hnn
    have hnm : n ≤ 1073741824 := by have := HX.out; omega
    rw [hnn] at HO ⊢
    obtain ⟨z, hz⟩ : ∃ z, s.length = z := ⟨_, rfl⟩
    have HZ := Lib.hid hz
    have hzm : z ≤ 1073741824 := by have := HX.out; omega
    obtain ⟨S, hS⟩ : ∃ T : ByteArray, ⟨s.toArray⟩ = T := ⟨_, rfl⟩
    have hSd : S.data.toList = s := by rw [← hS]
    have hSz : S.size = z := by rw [Lib.size_eq, hSd]; exact hz
    have HSd := Lib.hid hSd
    have hE : (Value.string S) = txt s := by unfold txt; rw [hS]
    have HE := Lib.hid hE
    rw [← hE]
    have hie : S.toList.isEmpty = s.isEmpty := by rw [Lib.toList_data, ← hS]
    have hgoE : ∀ (e : Nat) (b : Bool), (readL s0).1 = ls → (readL s0).2 = b → (if b then 0 else 150 : Nat) = e → ∀ w', Below wr.heap.size wr w' → RdPost s0 w (.returned (.tuple #[.slice ao n c, .int .i64 (e : Nat)])) w' := fun e b h1 h2 h3 w' hb' => by
      refine ⟨ao, c, ?_, ?_, ?_, HB.out.trans (hb'.mono hbs)⟩
      · unfold readE
        rw [h1, h2, h3, HNN.out]
      · rw [h1]; exact HL.out.below hb'
      · rw [h1]; exact HC.out
    have HGE := Lib.hid hgoE
    clear hb ho hgo hlen hL hcp hnn hz hS hSd hE hgoE
    by_cases h0 : s = []
    · subst h0
      have HD : Hid (readL s0 = (ls, true)) := Lib.hid (by rw [HG.out, read_end, List.append_nil])
      have hie2 : S.toList.isEmpty = true := hie
      clear hie
      repeat (first | go_skip | go_guarded | go_step | go_upon)
      go_ret2
      exact HGE.out 0 true (by rw [HD.out]) (by rw [HD.out]) rfl _ (Below.refl _ _)
    · have hie2 : S.toList.isEmpty = false := by rw [hie]; cases s with
        | nil => exact absurd rfl h0
        | cons x s => rfl
      have H0 := Lib.hid h0
      have HBad : Hid (nextF ls.length s = none → readL s0 = (ls, false)) := Lib.hid (fun h => by rw [HG.out, go_bad H0.out h, List.append_nil])
      clear hie h0
      by_cases h12 : z < 12
      · have HN : Hid (nextF ls.length s = none) := Lib.hid (drop_short (by rw [HZ.out]; exact h12))
        have h12z : (z : Int) < 12 := by omega
        clear h12
        repeat (first | go_skip | go_guarded | go_step | go_upon)
        go_ret2
        exact HGE.out 150 false (by rw [HBad.out HN.out]) (by rw [HBad.out HN.out]) rfl _ (Below.refl _ _)
      · have h12z : ¬ (z : Int) < 12 := by omega
        obtain ⟨x0, e0, l0, j0⟩ := byte_at S 0 (by omega) 0 rfl
        obtain ⟨x1, e1, l1, j1⟩ := byte_at S 1 (by omega) 1 rfl
        obtain ⟨x2, e2, l2, j2⟩ := byte_at S 2 (by omega) 2 rfl
        obtain ⟨x3, e3, l3, j3⟩ := byte_at S 3 (by omega) 3 rfl
        obtain ⟨k, hk⟩ : ∃ k, num4 s 0 = k := ⟨_, rfl⟩
        have hkx : (x0 : Int) * 16777216 + (x1 : Int) * 65536 + (x2 : Int) * 256 + (x3 : Int) = (k : Int) := by
          rw [← hk]
          unfold num4
          rw [← HSd.out, e0, e1, e2, e3]
          omega
        have HK := Lib.hid hk
        clear e0 e1 e2 e3 hk
        repeat (first | go_skip | go_guarded | go_step | go_upon)
        go_quiet (fail)
        rename_i nq
        have HB3 : Hid (Below wr.heap.size wr (wr.drewN nq)) := Lib.hid ⟨rfl, rfl, rfl, Nat.le_refl _, fun _ _ => rfl⟩
        generalize wr.drewN nq = w3 at HB3 ⊢
        by_cases h2 : MaxP < k
        · have HN : Hid (nextF ls.length s = none) := Lib.hid (by unfold nextF; rw [HK.out, if_neg (by omega)])
          unfold MaxP at h2
          have h2z : (1048576 : Int) < k := by omega
          clear h2
          repeat (first | go_skip | go_guarded | go_step | go_upon)
          go_ret2
          exact HGE.out 150 false (by rw [HBad.out HN.out]) (by rw [HBad.out HN.out]) rfl _ HB3.out
        · by_cases h3 : z - 12 < k
          · have HN : Hid (nextF ls.length s = none) := Lib.hid (by unfold nextF; rw [HK.out, HZ.out, if_neg (by omega)])
            unfold MaxP at h2
            have h2z : ¬ (1048576 : Int) < k := by omega
            have h3z : (z : Int) - 12 < k := by omega
            clear h2 h3
            repeat (first | go_skip | go_guarded | go_step | go_upon)
            go_ret2
            exact HGE.out 150 false (by rw [HBad.out HN.out]) (by rw [HBad.out HN.out]) rfl _ HB3.out
          · have hMk : k ≤ MaxP := Nat.not_lt.1 h2
            have hkz : k + 12 ≤ z := by omega
            unfold MaxP at h2
            have h2z : ¬ (1048576 : Int) < k := by omega
            have h3z : ¬ (z : Int) - 12 < k := by omega
            obtain ⟨P, hP⟩ : ∃ P, (s.drop 12).take k = P := ⟨_, rfl⟩
            have hPl : P.length = k := by rw [← hP, List.length_take, List.length_drop, HZ.out]; omega
            have s1 := sl_mid S 12 (12 + k) 12 (12 + (k : Int)) rfl (by omega) (by omega) (by omega)
            have s2 := sl_to S (12 + k) (12 + (k : Int)) (by omega) (by omega)
            have s3 := sl_from S (12 + k) (12 + (k : Int)) (by omega) (by omega)
            rw [HSd.out, show 12 + k - 12 = k by omega, hP] at s1
            rw [HSd.out] at s2 s3
            obtain ⟨TP, hTP⟩ : ∃ T : ByteArray, ⟨P.toArray⟩ = T := ⟨_, rfl⟩
            obtain ⟨T2, hT2⟩ : ∃ T : ByteArray, ⟨(s.take (12 + k)).toArray⟩ = T := ⟨_, rfl⟩
            obtain ⟨R, hR⟩ : ∃ R, s.drop (12 + k) = R := ⟨_, rfl⟩
            obtain ⟨TR, hTR⟩ : ∃ T : ByteArray, ⟨R.toArray⟩ = T := ⟨_, rfl⟩
            rw [hTP] at s1
            rw [hT2] at s2
            rw [hR, hTR] at s3
            have cM := fun W => rmore_any (n : Int) P W (by omega) (by omega) (by unfold maxLen; omega)
            rw [moreV_yes (by omega) (by rw [hPl]; exact hMk)] at cM
            unfold txt at cM
            rw [hTP] at cM
            obtain ⟨TF, hTF⟩ : ∃ T : ByteArray, ⟨(frameL n P).toArray⟩ = T := ⟨_, rfl⟩
            rw [hTF] at cM
            have hkl : (12 : Int) + k ≤ 9223372036854775807 := by omega
            by_cases h4 : frameL n P = s.take (12 + k)
            · have hF2 : TF = T2 := by rw [← hTF, h4, hT2]
              have q1 := str_eq T2
              rw [hF2] at cM
              have hnext : nextF ls.length s = some (P, R) := by
                unfold nextF
                rw [HK.out, hP, HNN.out, hR, if_pos ⟨by rw [HZ.out]; omega, hMk, by rw [HZ.out]; omega, h4.symm⟩]
              have hl := next_len hnext
              have hst := go_step hnext
              have HG2 : Hid (readL s0 = ((ls ++ [P]) ++ (readGo R.length (ls ++ [P]).length R).1, (readGo R.length (ls ++ [P]).length R).2)) := Lib.hid (by
                rw [HG.out, hst]
                simp only [List.length_append, List.length_cons, List.length_nil, List.append_assoc, List.cons_append, List.nil_append, Nat.zero_add])
              have HL2 : Hid (R.length + 12 * (ls ++ [P]).length ≤ s0.length) := Lib.hid (by
                have := HLn.out
                rw [List.length_append, List.length_cons, List.length_nil]
                omega)
              have HTL : Hid (TR.size < S.size) := Lib.hid (by rw [← hTR, Lib.size_eq, hSz]; have := HZ.out; simp only []; omega)
              have HTR : Hid (Value.string TR = txt R) := Lib.hid (by unfold txt; rw [hTR])
              have HTP : Hid ([P].map txt = [.string TP]) := Lib.hid (by rw [List.map_singleton]; unfold txt; rw [hTP])
              have HO3 := Lib.hid (owns_below HO.out HB3.out)
              have CM := Lib.hid cM
              clear cM hP hPl hTP hT2 hR hTR hTF h4 hF2 hnext hl hst h2 h3 hMk
              repeat (first
                | (go_at_call 15; refine (CM.out _).mono ?_; rintro r w4 ⟨rfl, hb⟩; simp only []; have HB4 := Lib.hid (Below.trans HB3.out (hb.mono HB3.out.size)); have HO4 := Lib.hid (owns_below HO3.out hb); have hbs4 := HB4.out.size; clear hb)
                | (at_builtin; refine wpList_append_own _ rfl _ _ 22 rfl w.heap.size 9 i0 (.string ByteArray.empty) 1 16 Tryd.underlying22 hi hz0 hz1 hz2 rfl (by decide) _ _ _ rfl (HO4.out.alloc _) ⟨w4.heap.size, 0, none⟩ 1 1 [.string TP] rfl rfl (one_new _ _ _) (fun u hu => by simp at hu; subst hu; rfl) (by unfold maxLen; omega) (by omega) (by simp; omega) ?_; intro v' w5 hown' hgrow3 hnil3; have HO5 := Lib.hid hown'; have HB5 := Lib.hid (((Below.trans HB.out (HB4.out.mono hbs)).alloc (by omega) (.cells #[.string TP] 9)).grown hgrow3 (by simp; omega) (fun j hj => (HO4.out.lt j hj).1)); clear hown' hgrow3 hnil3)
                | go_skip | go_guarded | go_step | go_upon)
              refine ⟨⟨R, ls ++ [P], HTR.out, ?_, HB5.out, HG2.out, HL2.out⟩, HTL.out⟩
              rw [List.length_append, HNN.out, List.map_append, HTP.out]
              exact HO5.out
            · have q1 := str_ne _ _ TF T2 hTF hT2 h4
              have HN : Hid (nextF ls.length s = none) := Lib.hid (by
                cases hx : nextF ls.length s with
                | none => rfl
                | some pr =>
                  exfalso
                  obtain ⟨p, r⟩ := pr
                  obtain ⟨e1, e2⟩ := next_some hx
                  obtain ⟨e3, e4⟩ := drop_frame2 hx HK.out
                  rw [hP] at e3
                  subst e3
                  refine h4 ?_
                  rw [e1, HNN.out, List.take_append_of_le_length (by rw [frame_len]; omega), List.take_of_length_le (by rw [frame_len]; omega)])
              have CM := Lib.hid cM
              clear cM hP hPl hTP hT2 hR hTR hTF h4 h2 h3 hMk
              repeat (first
                | (go_at_call 15; refine (CM.out _).mono ?_; rintro r w4 ⟨rfl, hb⟩; simp only []; have HB4 := Lib.hid (Below.trans HB3.out (hb.mono HB3.out.size)); clear hb)
                | go_skip | go_guarded | go_step | go_upon)
              go_ret2
              exact HGE.out 150 false (by rw [HBad.out HN.out]) (by rw [HBad.out HN.out]) rfl _ HB4.out
end LN
end Go.Proofs.YtbklnijmalnnoaaDoor
