/- Layer 14: the walk of DeltaSame. -/
import Derived.Test.YtmpmmebmhffaeaaDoorQDlAw
set_option linter.all false
set_option maxRecDepth 100000
set_option maxHeartbeats 25600000
namespace Go.Proofs.YtmpmmebmhffaeaaDoor
open Go.RowKit Go.Lib Go.BigFrame Go.Maps
namespace DM
open OM DL HP HS

theorem cat_data (s t : ByteArray) : (s ++ t).data.toList = s.data.toList ++ t.data.toList := by simp
set_option maxRecDepth 100000 in
set_option maxHeartbeats 6400000 in
theorem same_law (s m : ByteArray) (z : Int) (w : World) (he : HQ.Env w) (h0 : -9223372036854775808 ≤ z) (h1 : z ≤ 9223372036854775807) (hs0 : s.size ≤ 9223372036854775807) (hm0 : m.size ≤ 9223372036854775807) :
    Calls Tryd.prog 5 #[.string s, .string m, .int .i64 z] w fun r w' => r = .returned (.bool true) ∧ Below w.heap.size w w' := by
  have CA := Lib.hid (awake_any w he)
  by_cases hz1 : z < 1
  · go_enter Tryd.func5, Tryd.ntmps5
    repeat (first | go_skip | go_guarded | go_step | go_upon)
    refine CA.out.mono ?_
    rintro r w1 ⟨rfl, hb1⟩
    simp only []
    repeat (first | go_skip | go_guarded | go_step | go_upon)
    go_ret
    exact ⟨rfl, hb1⟩
  · by_cases hz2 : 65536 < z
    · go_enter Tryd.func5, Tryd.ntmps5
      repeat (first | go_skip | go_guarded | go_step | go_upon)
      refine CA.out.mono ?_
      rintro r w1 ⟨rfl, hb1⟩
      simp only []
      repeat (first | go_skip | go_guarded | go_step | go_upon)
      go_ret
      exact ⟨rfl, hb1⟩
    · by_cases hs : (2000 : Int) < s.size
      · go_enter Tryd.func5, Tryd.ntmps5
        repeat (first | go_skip | go_guarded | go_step | go_upon)
        refine CA.out.mono ?_
        rintro r w1 ⟨rfl, hb1⟩
        simp only []
        repeat (first | go_skip | go_guarded | go_step | go_upon)
        go_ret
        exact ⟨rfl, hb1⟩
      · by_cases hm : (2000 : Int) < m.size
        · go_enter Tryd.func5, Tryd.ntmps5
          repeat (first | go_skip | go_guarded | go_step | go_upon)
          refine CA.out.mono ?_
          rintro r w1 ⟨rfl, hb1⟩
          simp only []
          repeat (first | go_skip | go_guarded | go_step | go_upon)
          go_ret
          exact ⟨rfl, hb1⟩
        · obtain ⟨n, rfl⟩ : ∃ n : Nat, z = n := ⟨z.toNat, by omega⟩
          have HE : Hid (∀ W, Below w.heap.size w W → HQ.Env W) := Lib.hid (fun W hW => he.below hW)
          have hn1 : 1 ≤ n := by omega
          have hn2 : n ≤ 65536 := by omega
          have CS := Lib.hid (fun (W : World) (hW : Below w.heap.size w W) => sign_any s n W (he.below hW) hn1 hn2 (by omega))
          have hbl : (signL s.data.toList n).length ≤ 4194304 := by
            rw [sign_len, ← size_data]
            have := cnt_le (n := s.size) hn1
            omega
          have HOK := Lib.hid (sign_ok (base := s.data.toList) (sz := n) (by rw [← size_data]; omega) hn2)
          have CM1 : Hid (∀ W ao c, Below w.heap.size w W → LayB W ao (signL s.data.toList n) → Calls Tryd.prog 9 #[.string s, .slice ao (signL s.data.toList n).length c, .int .i64 n] W fun r w' => ∃ v, r = .returned (.tuple #[v, .int .i64 0]) ∧ w'.ownsRow W.heap.size 46 3 v (makeL s.data.toList (signL s.data.toList n) n).length (opC (makeL s.data.toList (signL s.data.toList n) n)) ∧ Below W.heap.size W w') := Lib.hid (fun W ao c hW hl => make_any s n _ ao c W (he.below hW) hl hn1 hn2 (by omega) hbl HOK.out)
          have CM2 : Hid (∀ W ao c, Below w.heap.size w W → LayB W ao (signL s.data.toList n) → Calls Tryd.prog 9 #[.string (s ++ m), .slice ao (signL s.data.toList n).length c, .int .i64 n] W fun r w' => ∃ v, r = .returned (.tuple #[v, .int .i64 0]) ∧ w'.ownsRow W.heap.size 46 3 v (makeL (s.data.toList ++ m.data.toList) (signL s.data.toList n) n).length (opC (makeL (s.data.toList ++ m.data.toList) (signL s.data.toList n) n)) ∧ Below W.heap.size W w') := Lib.hid (fun W ao c hW hl => by
            have := make_any (s ++ m) n _ ao c W (he.below hW) hl hn1 hn2 (by rw [ByteArray.size_append]; omega) hbl HOK.out
            rw [cat_data] at this
            exact this)
          have HN1 := Lib.hid (make_same (base := s.data.toList) hn1)
          have HN2 : Hid (s.data.toList.length % n = 0 → newL (makeL (s.data.toList ++ m.data.toList) (signL s.data.toList n) n) ≤ m.data.toList.length) := Lib.hid (fun h => make_more hn1 h)
          have HLn := Lib.hid (size_data s)
          have HLm := Lib.hid (size_data m)
          obtain ⟨M1, hM1⟩ : ∃ M, makeL s.data.toList (signL s.data.toList n) n = M := ⟨_, rfl⟩
          obtain ⟨M2, hM2⟩ : ∃ M, makeL (s.data.toList ++ m.data.toList) (signL s.data.toList n) n = M := ⟨_, rfl⟩
          rw [hM1] at CM1 HN1
          rw [hM2] at CM2 HN2
          have HML1 : Hid (M1.length ≤ 8388608) := Lib.hid (by rw [← hM1]; have := makeL_len s.data.toList (signL s.data.toList n) hn1; rw [← size_data] at this; omega)
          have HML2 : Hid (M2.length ≤ 8388608) := Lib.hid (by rw [← hM2]; have := makeL_len (s.data.toList ++ m.data.toList) (signL s.data.toList n) hn1; rw [List.length_append, ← size_data, ← size_data] at this; omega)
          obtain ⟨L, hL⟩ : ∃ L, signL s.data.toList n = L := ⟨_, rfl⟩
          rw [hL] at CS CM1 CM2 hbl
          have HBL := Lib.hid hbl
          obtain ⟨nl, hnl⟩ : ∃ nl, L.length = nl := ⟨_, rfl⟩
          obtain ⟨n1, hn1l⟩ : ∃ nl, M1.length = nl := ⟨_, rfl⟩
          obtain ⟨n2, hn2l⟩ : ∃ nl, M2.length = nl := ⟨_, rfl⟩
          rw [hnl] at CS CM1 CM2
          rw [hn1l] at CM1
          rw [hn2l] at CM2
          have HNL := Lib.hid hnl
          have HNL1 := Lib.hid hn1l
          have HNL2 := Lib.hid hn2l
          have hn0 : (n : Int) ≠ 0 := by omega
          clear he hM1 hM2 hL hnl hn1l hn2l hbl HOK
          go_enter Tryd.func5, Tryd.ntmps5
          repeat (first | go_skip | go_guarded | go_step | go_upon)
          refine CA.out.mono ?_
          rintro r w1 ⟨rfl, hb1⟩
          simp only []
          have B1 := Lib.hid hb1
          clear hb1 CA
          repeat (first | go_skip | go_guarded | go_step | go_upon)
          refine (CS.out w1 B1.out).mono ?_
          rintro r w2 ⟨v, rfl, ho2, hb2⟩
          rw [← HNL.out] at ho2
          obtain ⟨a2, c2, rfl, hl2⟩ := lay3_own ho2
          rw [HNL.out]
          simp only []
          have HL2 := Lib.hid hl2
          have B2 := Lib.hid (B1.out.trans (hb2.mono B1.out.size))
          clear ho2 hl2 hb2
          repeat (first | go_skip | go_guarded | go_step | go_upon)
          refine (CM1.out w2 a2 c2 B2.out HL2.out).mono ?_
          rintro r w3 ⟨v, rfl, ho3, hb3⟩
          rw [← HNL1.out] at ho3
          obtain ⟨a3, c3, rfl, hl3⟩ := lay3_own ho3
          rw [HNL1.out]
          simp only []
          have CN := Lib.hid (new_any M1 a3 c3 w3 hl3 HML1.out (by rw [HN1.out]; omega))
          rw [HNL1.out, HN1.out] at CN
          have HL3 := Lib.hid (HL2.out.below hb3)
          have B3 := Lib.hid (B2.out.trans (hb3.mono B2.out.size))
          clear ho3 hl3 hb3
          repeat (first | go_skip | go_guarded | go_step | go_upon)
          refine CN.out.mono ?_
          rintro r w4 ⟨rfl, hb4⟩
          simp only []
          have HL4 := Lib.hid (HL3.out.below hb4)
          have B4 := Lib.hid (B3.out.trans (hb4.mono B3.out.size))
          clear hb4 CN
          by_cases hd : s.size % n = 0
          · have hq : ((s.size : Int) % n != 0) = false := by simp; omega
            repeat (first | go_skip | go_guarded | go_step | go_upon)
            refine (CM2.out w4 a2 c2 B4.out HL4.out).mono ?_
            rintro r w5 ⟨v, rfl, ho5, hb5⟩
            rw [← HNL2.out] at ho5
            obtain ⟨a5, c5, rfl, hl5⟩ := lay3_own ho5
            rw [HNL2.out]
            simp only []
            have hnew := HN2.out (by rw [← HLn.out]; exact hd)
            rw [← HLm.out] at hnew
            have CN := Lib.hid (new_any M2 a5 c5 w5 hl5 HML2.out (by omega))
            rw [HNL2.out] at CN
            obtain ⟨q, hqn⟩ : ∃ q, newL M2 = q := ⟨_, rfl⟩
            rw [hqn] at CN hnew
            have hle : (q : Int) ≤ m.size := by omega
            have B5 := Lib.hid (B4.out.trans (hb5.mono B4.out.size))
            clear ho5 hl5 hb5 hqn hnew
            repeat (first | go_skip | go_guarded | go_step | go_upon)
            refine CN.out.mono ?_
            rintro r w6 ⟨rfl, hb6⟩
            simp only []
            have B6 := Lib.hid (B5.out.trans (hb6.mono B5.out.size))
            clear hb6 CN
            repeat (first | go_skip | go_guarded | go_step | go_upon)
            go_ret
            exact ⟨rfl, B6.out⟩
          · have hq : ((s.size : Int) % n != 0) = true := by simp; omega
            repeat (first | go_skip | go_guarded | go_step | go_upon)
            go_ret
            exact ⟨rfl, B4.out⟩
end DM
end Go.Proofs.YtmpmmebmhffaeaaDoor
