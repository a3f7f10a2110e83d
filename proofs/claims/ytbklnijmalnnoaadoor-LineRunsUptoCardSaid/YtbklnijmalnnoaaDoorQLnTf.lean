/- Layer 15: the contract of the program's takeFrame. -/
import Derived.Test.YtbklnijmalnnoaaDoorQLnRd
import Derived.Test.YtbklnijmalnnoaaDoorQQs
set_option linter.all false
set_option maxRecDepth 100000
set_option maxHeartbeats 25600000
namespace Go.Proofs.YtbklnijmalnnoaaDoor
open Go.RowKit Go.Lib Go.BigFrame
namespace RP
theorem num_sub (l : List UInt8) (k : Nat) : num4 ((l.drop k).take 4) 0 = num4 l k := by
  have e : ∀ j, j < 4 → ((l.drop k).take 4).getD j 0 = l.getD (k + j) 0 := fun j hj => by
    rw [List.getD_eq_getElem?_getD, List.getD_eq_getElem?_getD, List.getElem?_take_of_lt hj, List.getElem?_drop]
  unfold num4
  rw [e 0 (by decide), e (0 + 1) (by decide), e (0 + 2) (by decide), e (0 + 3) (by decide)]
  rfl
end RP
namespace LN
open HP HS RP LP OM RQ HR RF
open HQ (Env crc_any)

/-- What takeFrame says and leaves. -/
def TfPost (b : Nat) (s : List UInt8) (ls : List (List UInt8)) (w : World) (r : Ending) (w' : World) : Prop :=
  (∃ p t, nextF ls.length s = some (p, t) ∧ r = .returned (.tuple #[txt p, .bool true]) ∧ RdA b t ls w' ∧ Below b w w') ∨
  (nextF ls.length s = none ∧ r = .returned (.tuple #[.string ⟨#[]⟩, .bool false]) ∧ (∃ t, RdA b t ls w') ∧ Below b w w')
theorem str_ne (a b : List UInt8) (A B : ByteArray) (ha : ⟨a.toArray⟩ = A) (hb : ⟨b.toArray⟩ = B) (h : a ≠ b) : (A.toList == B.toList) = false := by
  rw [Lib.toList_data, Lib.toList_data, ← ha, ← hb]
  simpa using h
theorem str_eq (A : ByteArray) : (A.toList == A.toList) = true := by simp
theorem drop_short {s : List UInt8} {ls : List (List UInt8)} (h : s.length < 12) : nextF ls.length s = none := by
  rw [next_by, if_pos h]
set_option maxRecDepth 100000 in
set_option maxHeartbeats 6400000 in
theorem frame_short (b : Nat) (s : List UInt8) (ls : List (List UInt8)) (w : World) (hr : RdA b s ls w) (hm : s.length < 12) :
    Calls Tryd.prog 31 #[ptr b] w (TfPost b s ls w) := by
  have CT := Lib.hid (take_no b s ls 12 w hr (by unfold maxLen; omega) hm (by decide))
  have HR := Lib.hid hr
  have HN := Lib.hid (drop_short (ls := ls) hm)
  unfold txt at CT
  clear hr hm
  go_enter Tryd.func31, Tryd.ntmps31
  repeat (first | (go_at_call 35; refine CT.out.mono ?_; rintro r w1 ⟨rfl, rfl⟩; simp only []) | go_skip | go_guarded | go_step | go_upon)
  go_ret2
  exact .inr ⟨HN.out, rfl, ⟨_, HR.out⟩, Below.refl _ _⟩
theorem take_arm {b : Nat} {s : List UInt8} {ls : List (List UInt8)} {w w1 : World} (h : RdA b s ls w) (t : List UInt8) (e : w1 = w.setCell ⟨b, 0, none⟩ (txt t)) : RdA b t ls w1 ∧ Below b w w1 := by
  subst e
  exact ⟨h.set0 t, (Below.refl _ _).setCell (p := ⟨b, 0, none⟩) (Nat.le_refl _) _⟩
theorem RdA.on {b : Nat} {s : List UInt8} {ls : List (List UInt8)} {w w1 w2 : World} (h : RdA b s ls w1) (hb : Below b w w1) (h2 : Below w1.heap.size w1 w2) : RdA b s ls w2 ∧ Below b w w2 :=
  ⟨h.keep h2, hb.trans (h2.mono (Nat.le_of_lt h.lt))⟩
set_option maxRecDepth 100000 in
set_option maxHeartbeats 12800000 in
theorem frame_long (b : Nat) (s : List UInt8) (ls : List (List UInt8)) (w : World) (hr : RdA b s ls w) (he : ∀ W, Below b w W → Env W) (hm : 12 ≤ s.length) (hx : s.length ≤ 4294967296) (hn : ls.length < 4294967296) :
    Calls Tryd.prog 31 #[ptr b] w (TfPost b s ls w) := by
  have hby := next_by ls.length s
  rw [if_neg (by omega)] at hby
  have cT := take_yes b s ls 12 w hr (by unfold maxLen; omega) hm
  have hrn := hr
  obtain ⟨H, hH⟩ : ∃ H, s.take 12 = H := ⟨_, rfl⟩
  obtain ⟨D, hD⟩ : ∃ D, s.drop 12 = D := ⟨_, rfl⟩
  obtain ⟨F, hF⟩ : ∃ F, s.take 4 = F := ⟨_, rfl⟩
  obtain ⟨L, hL⟩ : ∃ L, (s.drop 4).take 4 = L := ⟨_, rfl⟩
  obtain ⟨M, hM⟩ : ∃ M, (s.drop 8).take 4 = M := ⟨_, rfl⟩
  have eF : H.take 4 = F := by rw [← hH, ← hF, List.take_take]; rfl
  have eL : (H.drop 4).take 4 = L := by rw [← hH, ← hL, List.drop_take, List.take_take]; rfl
  have eM : H.drop 8 = M := by rw [← hH, ← hM, List.drop_take]
  have hHl : H.length = 12 := by rw [← hH, List.length_take]; omega
  have hFl : F.length = 4 := by rw [← hF, List.length_take]; omega
  obtain ⟨k, hk⟩ : ∃ k, num4 s 0 = k := ⟨_, rfl⟩
  have hkl : k < 4294967296 := by rw [← hk]; exact num_lt s 0
  have hkF : num4 F 0 = k := by
    have e2 := num_sub s 0
    rw [List.drop_zero, hF, hk] at e2
    exact e2
  have hDl : D.length = s.length - 12 := by rw [← hD, List.length_drop]
  obtain ⟨G, hG⟩ : ∃ G, be4 (crcL F) = G := ⟨_, rfl⟩
  have cS := fun W (hb : Below b w W) => sum_any F W (he W hb) (by unfold maxLen; omega)
  have eD : s.drop (12 + k) = D.drop k := by rw [← hD, List.drop_drop]
  rw [hk, hF, hL, hM, hD, hG, eD, ← hDl] at hby
  rw [hH, hD] at cT
  rw [hG] at cS
  unfold txt at cT cS
  obtain ⟨TH, hTH⟩ : ∃ T : ByteArray, ⟨H.toArray⟩ = T := ⟨_, rfl⟩
  obtain ⟨TF, hTF⟩ : ∃ T : ByteArray, ⟨F.toArray⟩ = T := ⟨_, rfl⟩
  obtain ⟨TL, hTL⟩ : ∃ T : ByteArray, ⟨L.toArray⟩ = T := ⟨_, rfl⟩
  obtain ⟨TM, hTM⟩ : ∃ T : ByteArray, ⟨M.toArray⟩ = T := ⟨_, rfl⟩
  obtain ⟨TG, hTG⟩ : ∃ T : ByteArray, ⟨G.toArray⟩ = T := ⟨_, rfl⟩
  have hTHd : TH.data.toList = H := by rw [← hTH]
  have hTHz : TH.size = 12 := by rw [Lib.size_eq, hTHd]; exact hHl
  have s1 := sl_to TH 4 4 rfl (by omega)
  have s2 := sl_mid TH 4 8 4 8 rfl rfl (by omega) (by omega)
  have s3 := sl_from TH 8 8 rfl (by omega)
  rw [hTHd, eF, hTF] at s1
  rw [hTHd, show 8 - 4 = 4 from rfl, eL, hTL] at s2
  rw [hTHd, eM, hTM] at s3
  rw [hTH] at cT
  rw [hTF, hTG] at cS
  have cR : ∀ W, Calls Tryd.prog 36 #[.string TF] W fun r w' => r = .returned (.int .u32 k) ∧ Below W.heap.size W w' := fun W => by
    have h := read_any TF W (by rw [← hTF, Lib.size_eq]; exact hFl)
    have e : TF.data.toList = F := by rw [← hTF]
    rw [e, hkF] at h
    exact h
  have CT := Lib.hid cT
  have CS := Lib.hid cS
  have CR := Lib.hid cR
  have RC := Lib.hid hr
  have HEn := Lib.hid he
  have hkz : (k : Int) < 4294967296 := by omega
  have hwk : IntKind.i64.wrap (k : Int) = (k : Int) := by simp [IntKind.wrap, IntKind.bits, IntKind.signed]; omega
  by_cases h1 : L = G
  · have hTLG : TL = TG := by rw [← hTL, h1, hTG]
    rw [if_neg (not_not_intro h1)] at hby
    have q1 := str_eq TG
    subst hTLG
    by_cases h2 : MaxP < k
    · rw [if_pos h2] at hby
      have HBY := Lib.hid hby
      unfold MaxP at h2
      have h2z : (1048576 : Int) < k := by omega
      clear hby cT cS cR hrn hr he hm hH hD hF hL hM eF eL eM hHl hFl hk hkl hkF hDl hG eD hTH hTF hTL hTM hTG hTHd hTHz h1 h2
      go_enter Tryd.func31, Tryd.ntmps31
      repeat (first | (go_at_call_of 35 (Value.int IntKind.i64 12); refine CT.out.mono ?_; rintro r w1 ⟨rfl, e1⟩; simp only []; obtain ⟨r1, b1⟩ := take_arm RC.out D e1; have RC := Lib.hid r1; have BC := Lib.hid b1; clear e1 r1 b1) | go_skip | go_guarded | go_step | go_upon)
      go_quiet (fail)
      rename_i nq
      obtain ⟨r9, b9⟩ := RdA.on RC.out BC.out (show Below w1.heap.size w1 (w1.drewN nq) from ⟨rfl, rfl, rfl, Nat.le_refl _, fun _ _ => rfl⟩)
      have RC := Lib.hid r9
      have BC := Lib.hid b9
      clear r9 b9
      generalize w1.drewN nq = w9 at RC BC ⊢
      repeat (first
        | (go_at_call 35; refine CT.out.mono ?_; rintro r w1 ⟨rfl, e1⟩; simp only []; obtain ⟨r1, b1⟩ := take_arm RC.out D e1; have RC := Lib.hid r1; have BC := Lib.hid b1; clear e1 r1 b1)
        | (go_at_call 28; refine (CS.out _ BC.out).mono ?_; rintro r w2 ⟨rfl, hb⟩; simp only []; obtain ⟨r2, b2⟩ := RdA.on RC.out BC.out hb; have RC := Lib.hid r2; have BC := Lib.hid b2; clear hb r2 b2)
        | (go_at_call 36; refine (CR.out _).mono ?_; rintro r w3 ⟨rfl, hb⟩; simp only []; obtain ⟨r3, b3⟩ := RdA.on RC.out BC.out hb; have RC := Lib.hid r3; have BC := Lib.hid b3; clear hb r3 b3)
        | go_skip | go_guarded | go_step | go_upon)
      go_ret2
      exact .inr ⟨HBY.out, rfl, ⟨_, RC.out⟩, BC.out⟩
    · rw [if_neg h2] at hby
      unfold MaxP at h2
      have h2z : ¬ (1048576 : Int) < k := by omega
      by_cases h3 : D.length < k
      · rw [if_pos h3] at hby
        have HBY := Lib.hid hby
        have CN : Hid (∀ W, RdA b D ls W → Calls Tryd.prog 35 #[ptr b, .int .i64 k] W fun r w' => r = .returned (.tuple #[.string ⟨#[]⟩, .bool false]) ∧ w' = W) := Lib.hid (fun W hR => take_no b D ls k W hR (by unfold maxLen; omega) h3 (by omega))
        clear hby cT cS cR hrn hr he hm hH hD hF hL hM eF eL eM hHl hFl hk hkl hkF hDl hG eD hTH hTF hTL hTM hTG hTHd hTHz h1 h2 h3
        go_enter Tryd.func31, Tryd.ntmps31
        repeat (first | (go_at_call_of 35 (Value.int IntKind.i64 12); refine CT.out.mono ?_; rintro r w1 ⟨rfl, e1⟩; simp only []; obtain ⟨r1, b1⟩ := take_arm RC.out D e1; have RC := Lib.hid r1; have BC := Lib.hid b1; clear e1 r1 b1) | go_skip | go_guarded | go_step | go_upon)
        go_quiet (fail)
        rename_i nq
        obtain ⟨r9, b9⟩ := RdA.on RC.out BC.out (show Below w1.heap.size w1 (w1.drewN nq) from ⟨rfl, rfl, rfl, Nat.le_refl _, fun _ _ => rfl⟩)
        have RC := Lib.hid r9
        have BC := Lib.hid b9
        clear r9 b9
        generalize w1.drewN nq = w9 at RC BC ⊢
        repeat (first
          | (go_at_call_of 35 (Value.int IntKind.i64 12); refine CT.out.mono ?_; rintro r w1 ⟨rfl, e1⟩; simp only []; obtain ⟨r1, b1⟩ := take_arm RC.out D e1; have RC := Lib.hid r1; have BC := Lib.hid b1; clear e1 r1 b1)
          | (go_at_call 28; refine (CS.out _ BC.out).mono ?_; rintro r w2 ⟨rfl, hb⟩; simp only []; obtain ⟨r2, b2⟩ := RdA.on RC.out BC.out hb; have RC := Lib.hid r2; have BC := Lib.hid b2; clear hb r2 b2)
          | (go_at_call 36; refine (CR.out _).mono ?_; rintro r w3 ⟨rfl, hb⟩; simp only []; obtain ⟨r3, b3⟩ := RdA.on RC.out BC.out hb; have RC := Lib.hid r3; have BC := Lib.hid b3; clear hb r3 b3)
          | go_skip | go_guarded | go_step | go_upon)
        refine wp_region_noPanic ?_
        with_reducible refine QT.region_mix (S := fun _ => True) [(true, 0), (true, 1), (true, 2), (true, 3), (false, 4), (true, 5), (false, 6), (true, 7), (true, 8), (true, 9), (true, 10)] 11 (by kernel_rfl) (by kernel_rfl) ?_ ?_ ?_
        · exact fun _ _ _ _ _ h => h
        · trivial
        intro _
        simp only [QT.pickM, List.filterMap_cons, List.filterMap_nil, List.getElem?_cons_succ, List.getElem?_cons_zero, Option.map_some, List.drop_succ_cons, List.drop_zero]
        iterate 4 (refine QT.wpMix_take _ (by rfl) (by intro w' _; go_simp; first | done | rfl) ?_; try simp only [Act.put, List.setIfInBounds_toArray, List.set_cons_zero, List.set_cons_succ])
        intro K' hK
        rw [if_pos (by rfl)]
        go_simp
        refine (CR.out _).mono ?_
        rintro r w4 ⟨rfl, hb⟩
        simp only []
        obtain ⟨r4, b4⟩ := RdA.on RC.out BC.out ((Below.refl _ _).drew.trans hb)
        have RC := Lib.hid r4
        have BC := Lib.hid b4
        refine hK.out _ _ trivial ?_
        clear hK K' hb r4 b4
        try simp only [Act.put, List.setIfInBounds_toArray, List.set_cons_zero, List.set_cons_succ]
        refine QT.wpMix_take (.int .i64 (k : Int)) (by rfl) (by intro w' _; go_simp; first | done | (rw [hwk]; done) | (simp only [hwk]; done)) ?_
        try simp only [Act.put, List.setIfInBounds_toArray, List.set_cons_zero, List.set_cons_succ]
        intro K' hK
        rw [if_pos (by rfl)]
        go_simp
        refine (CN.out _ RC.out).mono ?_
        rintro r w5 ⟨rfl, rfl⟩
        simp only []
        refine hK.out _ _ trivial ?_
        clear hK K'
        try simp only [Act.put, List.setIfInBounds_toArray, List.set_cons_zero, List.set_cons_succ]
        iterate 4 (refine QT.wpMix_take _ (by rfl) (by intro w' _; go_simp; first | done | rfl) ?_; try simp only [Act.put, List.setIfInBounds_toArray, List.set_cons_zero, List.set_cons_succ])
        refine QT.wpMix_nil ?_
        repeat (first | go_skip | go_guarded | go_step | go_upon)
        refine NoPanic.normal ?_
        repeat (first
          | go_skip | go_guarded | go_step | go_upon)
        go_ret2
        exact .inr ⟨HBY.out, rfl, ⟨_, RC.out⟩, BC.out⟩
      · rw [if_neg h3] at hby
        obtain ⟨n, hnn⟩ : ∃ n, ls.length = n := ⟨_, rfl⟩
        rw [hnn] at hn
        obtain ⟨P, hP⟩ : ∃ P, D.take k = P := ⟨_, rfl⟩
        obtain ⟨R, hR⟩ : ∃ R, D.drop k = R := ⟨_, rfl⟩
        obtain ⟨Q, hQ⟩ : ∃ Q, be4 (crcL (be4 n ++ P)) = Q := ⟨_, rfl⟩
        have hPl : P.length ≤ 4294967296 := by rw [← hP, List.length_take]; omega
        have cY := fun W (hr : RdA b D ls W) => take_yes b D ls k W hr (by unfold maxLen; omega) (by omega)
        have cM := fun W (hb : Below b w W) => msum_any n P W (he W hb) hn (by omega)
        rw [hP, hR] at cY
        rw [hQ] at cM
        rw [hnn, hP, hR, hQ] at hby
        unfold txt at cY cM
        obtain ⟨TP, hTP⟩ : ∃ T : ByteArray, ⟨P.toArray⟩ = T := ⟨_, rfl⟩
        obtain ⟨TQ, hTQ⟩ : ∃ T : ByteArray, ⟨Q.toArray⟩ = T := ⟨_, rfl⟩
        rw [hTP] at cY
        rw [hTP, hTQ] at cM
        have CY := Lib.hid cY
        have CM := Lib.hid cM
        have HTP : Hid (txt P = .string TP) := Lib.hid (by unfold txt; rw [hTP])
        have HNN := Lib.hid hnn
        have hnz : (n : Int) < 4294967296 := by omega
        by_cases h4 : M = Q
        · have hTMQ : TM = TQ := by rw [← hTM, h4, hTQ]
          rw [if_neg (not_not_intro h4)] at hby
          have q2 := str_eq TQ
          subst hTMQ
          have HBY := Lib.hid hby
          clear hby cT cS cR cY cM hrn hr he hm hH hD hF hL hM eF eL eM hHl hFl hk hkl hkF hDl hG eD hTH hTF hTL hTM hTG hTHd hTHz h1 h2 h3 hP hR hQ hPl hTP hTQ h4 hnn
          go_enter Tryd.func31, Tryd.ntmps31
          repeat (first | (go_at_call_of 35 (Value.int IntKind.i64 12); refine CT.out.mono ?_; rintro r w1 ⟨rfl, e1⟩; simp only []; obtain ⟨r1, b1⟩ := take_arm RC.out D e1; have RC := Lib.hid r1; have BC := Lib.hid b1; clear e1 r1 b1) | go_skip | go_guarded | go_step | go_upon)
          go_quiet (fail)
          rename_i nq
          obtain ⟨r9, b9⟩ := RdA.on RC.out BC.out (show Below w1.heap.size w1 (w1.drewN nq) from ⟨rfl, rfl, rfl, Nat.le_refl _, fun _ _ => rfl⟩)
          have RC := Lib.hid r9
          have BC := Lib.hid b9
          clear r9 b9
          generalize w1.drewN nq = w9 at RC BC ⊢
          repeat (first
            | (go_at_call_of 35 (Value.int IntKind.i64 12); refine CT.out.mono ?_; rintro r w1 ⟨rfl, e1⟩; simp only []; obtain ⟨r1, b1⟩ := take_arm RC.out D e1; have RC := Lib.hid r1; have BC := Lib.hid b1; clear e1 r1 b1)
            | (go_at_call 28; refine (CS.out _ BC.out).mono ?_; rintro r w2 ⟨rfl, hb⟩; simp only []; obtain ⟨r2, b2⟩ := RdA.on RC.out BC.out hb; have RC := Lib.hid r2; have BC := Lib.hid b2; clear hb r2 b2)
            | (go_at_call 36; refine (CR.out _).mono ?_; rintro r w3 ⟨rfl, hb⟩; simp only []; obtain ⟨r3, b3⟩ := RdA.on RC.out BC.out hb; have RC := Lib.hid r3; have BC := Lib.hid b3; clear hb r3 b3)
            | go_skip | go_guarded | go_step | go_upon)
          refine wp_region_noPanic ?_
          with_reducible refine QT.region_mix (S := fun _ => True) [(true, 0), (true, 1), (true, 2), (true, 3), (false, 4), (true, 5), (false, 6), (true, 7), (true, 8), (true, 9), (true, 10)] 11 (by kernel_rfl) (by kernel_rfl) ?_ ?_ ?_
          · exact fun _ _ _ _ _ h => h
          · trivial
          intro _
          simp only [QT.pickM, List.filterMap_cons, List.filterMap_nil, List.getElem?_cons_succ, List.getElem?_cons_zero, Option.map_some, List.drop_succ_cons, List.drop_zero]
          iterate 4 (refine QT.wpMix_take _ (by rfl) (by intro w' _; go_simp; first | done | rfl) ?_; try simp only [Act.put, List.setIfInBounds_toArray, List.set_cons_zero, List.set_cons_succ])
          intro K' hK
          rw [if_pos (by rfl)]
          go_simp
          refine (CR.out _).mono ?_
          rintro r w4 ⟨rfl, hb⟩
          simp only []
          obtain ⟨r4, b4⟩ := RdA.on RC.out BC.out ((Below.refl _ _).drew.trans hb)
          have RC := Lib.hid r4
          have BC := Lib.hid b4
          refine hK.out _ _ trivial ?_
          clear hK K' hb r4 b4
          try simp only [Act.put, List.setIfInBounds_toArray, List.set_cons_zero, List.set_cons_succ]
          refine QT.wpMix_take (.int .i64 (k : Int)) (by rfl) (by intro w' _; go_simp; first | done | (rw [hwk]; done) | (simp only [hwk]; done)) ?_
          try simp only [Act.put, List.setIfInBounds_toArray, List.set_cons_zero, List.set_cons_succ]
          intro K' hK
          rw [if_pos (by rfl)]
          go_simp
          refine (CY.out _ RC.out).mono ?_
          rintro r w5 ⟨rfl, e1⟩
          simp only []
          obtain ⟨r1, b1⟩ := take_arm RC.out R e1
          have RC := Lib.hid r1
          have BC := Lib.hid (Below.trans BC.out b1)
          clear e1 r1 b1
          obtain ⟨ao, cc, c1, _, hlm⟩ := RC.out.lay
          rw [HNN.out] at c1
          refine hK.out _ _ trivial ?_
          clear hK K'
          try simp only [Act.put, List.setIfInBounds_toArray, List.set_cons_zero, List.set_cons_succ]
          iterate 4 (refine QT.wpMix_take _ (by rfl) (by intro w' _; go_simp; first | done | rfl) ?_; try simp only [Act.put, List.setIfInBounds_toArray, List.set_cons_zero, List.set_cons_succ])
          refine QT.wpMix_nil ?_
          repeat (first | go_skip | go_guarded | go_step | go_upon)
          refine NoPanic.normal ?_
          repeat (first
            | (go_at_call 29; refine (CM.out _ BC.out).mono ?_; rintro r w5 ⟨rfl, hb⟩; simp only []; obtain ⟨r2, b2⟩ := RdA.on RC.out BC.out hb; have RC := Lib.hid r2; have BC := Lib.hid b2; clear hb r2 b2)
            | go_skip | go_guarded | go_step | go_upon)
          go_ret2
          exact .inl ⟨P, R, HNN.out ▸ HBY.out, by rw [HTP.out]; rfl, RC.out, BC.out⟩
        · rw [if_pos h4] at hby
          have q2 := str_ne M Q TM TQ hTM hTQ h4
          have HBY := Lib.hid hby
          clear hby cT cS cR cY cM hrn hr he hm hH hD hF hL hM eF eL eM hHl hFl hk hkl hkF hDl hG eD hTH hTF hTL hTM hTG hTHd hTHz h1 h2 h3 hP hR hQ hPl hTP hTQ h4 hnn
          go_enter Tryd.func31, Tryd.ntmps31
          repeat (first | (go_at_call_of 35 (Value.int IntKind.i64 12); refine CT.out.mono ?_; rintro r w1 ⟨rfl, e1⟩; simp only []; obtain ⟨r1, b1⟩ := take_arm RC.out D e1; have RC := Lib.hid r1; have BC := Lib.hid b1; clear e1 r1 b1) | go_skip | go_guarded | go_step | go_upon)
          go_quiet (fail)
          rename_i nq
          obtain ⟨r9, b9⟩ := RdA.on RC.out BC.out (show Below w1.heap.size w1 (w1.drewN nq) from ⟨rfl, rfl, rfl, Nat.le_refl _, fun _ _ => rfl⟩)
          have RC := Lib.hid r9
          have BC := Lib.hid b9
          clear r9 b9
          generalize w1.drewN nq = w9 at RC BC ⊢
          repeat (first
            | (go_at_call_of 35 (Value.int IntKind.i64 12); refine CT.out.mono ?_; rintro r w1 ⟨rfl, e1⟩; simp only []; obtain ⟨r1, b1⟩ := take_arm RC.out D e1; have RC := Lib.hid r1; have BC := Lib.hid b1; clear e1 r1 b1)
            | (go_at_call 28; refine (CS.out _ BC.out).mono ?_; rintro r w2 ⟨rfl, hb⟩; simp only []; obtain ⟨r2, b2⟩ := RdA.on RC.out BC.out hb; have RC := Lib.hid r2; have BC := Lib.hid b2; clear hb r2 b2)
            | (go_at_call 36; refine (CR.out _).mono ?_; rintro r w3 ⟨rfl, hb⟩; simp only []; obtain ⟨r3, b3⟩ := RdA.on RC.out BC.out hb; have RC := Lib.hid r3; have BC := Lib.hid b3; clear hb r3 b3)
            | go_skip | go_guarded | go_step | go_upon)
          refine wp_region_noPanic ?_
          with_reducible refine QT.region_mix (S := fun _ => True) [(true, 0), (true, 1), (true, 2), (true, 3), (false, 4), (true, 5), (false, 6), (true, 7), (true, 8), (true, 9), (true, 10)] 11 (by kernel_rfl) (by kernel_rfl) ?_ ?_ ?_
          · exact fun _ _ _ _ _ h => h
          · trivial
          intro _
          simp only [QT.pickM, List.filterMap_cons, List.filterMap_nil, List.getElem?_cons_succ, List.getElem?_cons_zero, Option.map_some, List.drop_succ_cons, List.drop_zero]
          iterate 4 (refine QT.wpMix_take _ (by rfl) (by intro w' _; go_simp; first | done | rfl) ?_; try simp only [Act.put, List.setIfInBounds_toArray, List.set_cons_zero, List.set_cons_succ])
          intro K' hK
          rw [if_pos (by rfl)]
          go_simp
          refine (CR.out _).mono ?_
          rintro r w4 ⟨rfl, hb⟩
          simp only []
          obtain ⟨r4, b4⟩ := RdA.on RC.out BC.out ((Below.refl _ _).drew.trans hb)
          have RC := Lib.hid r4
          have BC := Lib.hid b4
          refine hK.out _ _ trivial ?_
          clear hK K' hb r4 b4
          try simp only [Act.put, List.setIfInBounds_toArray, List.set_cons_zero, List.set_cons_succ]
          refine QT.wpMix_take (.int .i64 (k : Int)) (by rfl) (by intro w' _; go_simp; first | done | (rw [hwk]; done) | (simp only [hwk]; done)) ?_
          try simp only [Act.put, List.setIfInBounds_toArray, List.set_cons_zero, List.set_cons_succ]
          intro K' hK
          rw [if_pos (by rfl)]
          go_simp
          refine (CY.out _ RC.out).mono ?_
          rintro r w5 ⟨rfl, e1⟩
          simp only []
          obtain ⟨r1, b1⟩ := take_arm RC.out R e1
          have RC := Lib.hid r1
          have BC := Lib.hid (Below.trans BC.out b1)
          clear e1 r1 b1
          obtain ⟨ao, cc, c1, _, hlm⟩ := RC.out.lay
          rw [HNN.out] at c1
          refine hK.out _ _ trivial ?_
          clear hK K'
          try simp only [Act.put, List.setIfInBounds_toArray, List.set_cons_zero, List.set_cons_succ]
          iterate 4 (refine QT.wpMix_take _ (by rfl) (by intro w' _; go_simp; first | done | rfl) ?_; try simp only [Act.put, List.setIfInBounds_toArray, List.set_cons_zero, List.set_cons_succ])
          refine QT.wpMix_nil ?_
          repeat (first | go_skip | go_guarded | go_step | go_upon)
          refine NoPanic.normal ?_
          repeat (first
            | (go_at_call 29; refine (CM.out _ BC.out).mono ?_; rintro r w5 ⟨rfl, hb⟩; simp only []; obtain ⟨r2, b2⟩ := RdA.on RC.out BC.out hb; have RC := Lib.hid r2; have BC := Lib.hid b2; clear hb r2 b2)
            | go_skip | go_guarded | go_step | go_upon)
          go_ret2
          exact .inr ⟨HNN.out ▸ HBY.out, rfl, ⟨_, RC.out⟩, BC.out⟩
  · rw [if_pos h1] at hby
    have q1 := str_ne L G TL TG hTL hTG h1
    have HBY := Lib.hid hby
    clear hby cT cS cR hrn hr he hm hH hD hF hL hM eF eL eM hHl hFl hk hkl hkF hDl hG eD hTH hTF hTL hTM hTG hTHd hTHz h1
    go_enter Tryd.func31, Tryd.ntmps31
    repeat (first | (go_at_call_of 35 (Value.int IntKind.i64 12); refine CT.out.mono ?_; rintro r w1 ⟨rfl, e1⟩; simp only []; obtain ⟨r1, b1⟩ := take_arm RC.out D e1; have RC := Lib.hid r1; have BC := Lib.hid b1; clear e1 r1 b1) | go_skip | go_guarded | go_step | go_upon)
    go_quiet (fail)
    rename_i nq
    obtain ⟨r9, b9⟩ := RdA.on RC.out BC.out (show Below w1.heap.size w1 (w1.drewN nq) from ⟨rfl, rfl, rfl, Nat.le_refl _, fun _ _ => rfl⟩)
    have RC := Lib.hid r9
    have BC := Lib.hid b9
    clear r9 b9
    generalize w1.drewN nq = w9 at RC BC ⊢
    repeat (first
      | (go_at_call 35; refine CT.out.mono ?_; rintro r w1 ⟨rfl, e1⟩; simp only []; obtain ⟨r1, b1⟩ := take_arm RC.out D e1; have RC := Lib.hid r1; have BC := Lib.hid b1; clear e1 r1 b1)
      | (go_at_call 28; refine (CS.out _ BC.out).mono ?_; rintro r w2 ⟨rfl, hb⟩; simp only []; obtain ⟨r2, b2⟩ := RdA.on RC.out BC.out hb; have RC := Lib.hid r2; have BC := Lib.hid b2; clear hb r2 b2)
      | go_skip | go_guarded | go_step | go_upon)
    go_ret2
    exact .inr ⟨HBY.out, rfl, ⟨_, RC.out⟩, BC.out⟩
end LN
end Go.Proofs.YtbklnijmalnnoaaDoor
