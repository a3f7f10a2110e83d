/- Layer 5: the contract of the program's All. -/
import Derived.Test.YtpcbbhbkiiklaaaDoorRecNx
namespace Go.Proofs.YtpcbbhbkiiklaaaDoor
open Go.RowKit Go.Lib Go.BigFrame
namespace RF
open HP HS RP OM RQ HR
open HQ (Env crc_any)

/-- The loop's state: what is read, and what is left. -/
def PAll (l : List UInt8) (w : World) (s5 s6 _s7 _s8 _s9 : Value) (wr : World) : Prop :=
  ∃ (k : Nat) (done : List (List UInt8)), s6 = txt (l.drop k) ∧ k ≤ l.length ∧ done.length ≤ k ∧ allL l = (done ++ (allL (l.drop k)).1, k + (allL (l.drop k)).2.1, (allL (l.drop k)).2.2) ∧
    wr.ownsRow w.heap.size 9 1 s5 done.length (done.map txt) ∧ Below w.heap.size w wr
def left : Value → Nat
  | .string s => s.size
  | _ => 0
set_option maxRecDepth 100000 in
set_option maxHeartbeats 3200000 in
theorem all_any (l : List UInt8) (w : World) (hE : Env w) (hm : l.length ≤ 1073741824) :
    Calls Tryd.prog 13 #[txt l] w (AllPost l w) := by
  obtain ⟨i0, hi, hz0, hz1, hz2⟩ := info_parts infoS
  obtain ⟨z, hz⟩ : ∃ z, l.length = z := ⟨_, rfl⟩
  obtain ⟨S, hS⟩ : ∃ S : ByteArray, ⟨l.toArray⟩ = S := ⟨_, rfl⟩
  have hSz : S.size = z := by rw [← hS, Lib.size_eq]; exact hz
  have HZ := Lib.hid hz
  have HS := Lib.hid hS
  have HEn := Lib.hid hE
  have hzm : z ≤ 1073741824 := by omega
  unfold txt
  rw [hS]
  clear hS hm hz hE
  go_enter Tryd.func13, Tryd.ntmps13
  repeat (first | go_skip | go_guarded | go_step | go_upon)
  go_loopw [5, 6, 7, 8, 9] (PAll l w) (fun _ s6 _ _ _ _ => left s6)
  case atStart => exact ⟨0, [], by rw [List.drop_zero, ← HS.out]; rfl, Nat.zero_le _, Nat.zero_le _, by rw [List.drop_zero, List.nil_append, Nat.zero_add], World.ownsRow_nil _ _ _ _, Below.refl _ _⟩
  case round =>
    obtain ⟨k, done, rfl, hk, hdone, he, ho, hb⟩ := hrel
    rw [HZ.out] at hk
    have HO := Lib.hid ho
    have HB := Lib.hid hb
    have HE := Lib.hid he
    have hbs := hb.size
    clear ho hb he
    have hdl : (l.drop k).length = z - k := by rw [List.length_drop, HZ.out]
    obtain ⟨D, hD⟩ : ∃ D, l.drop k = D := ⟨_, rfl⟩
    rw [hD] at hdl
    have HD := Lib.hid hD
    obtain ⟨TD, hTD⟩ : ∃ T : ByteArray, ⟨(l.drop k).toArray⟩ = T := ⟨_, rfl⟩
    have hTDz : TD.size = z - k := by rw [← hTD, Lib.size_eq, hD]; exact hdl
    unfold txt
    rw [hTD]
    rw [hD] at hTD
    by_cases hlt : k < z
    · have hne : TD.toList.isEmpty = false := by
        rw [Lib.toList_data, ← hTD]
        cases D with
        | nil => simp at hdl; omega
        | cons x D => rfl
      have cN := fun W (hW : Env W) => next_any D W hW (by rw [hdl]; omega)
      unfold nextV txt at cN
      rw [hTD] at cN
      rcases next_cases D with ⟨p, r, hn⟩ | ⟨e, hn, he⟩
      · rw [hn] at cN
        simp only at cN
        obtain ⟨rl, hrl⟩ : ∃ rl, r.length = rl := ⟨_, rfl⟩
        have hlen := next_shrinks hn
        obtain ⟨k2, hk2⟩ : ∃ k2, z - rl = k2 := ⟨_, rfl⟩
        have HR : Hid (l.drop k2 = r) := Lib.hid (by
          have h1 : D.drop (D.length - r.length) = r := by
            rw [(next_ok hn).1, List.length_append, Nat.add_sub_cancel, List.drop_append_of_le_length (Nat.le_refl _), List.drop_of_length_le (Nat.le_refl _), List.nil_append]
          rw [← hD, List.drop_drop] at h1
          rw [← h1]
          congr 1
          rw [hD]
          omega)
        have HA : Hid (allL D = (p :: (allL r).1, D.length - r.length + (allL r).2.1, (allL r).2.2)) := Lib.hid (all_step hn)
        have HK : Hid (k + (D.length - r.length) = k2) := Lib.hid (by omega)
        have hkk : k + 8 ≤ k2 := by omega
        have hkl : k2 ≤ z := by omega
        obtain ⟨TR, hTR⟩ : ∃ T : ByteArray, ⟨r.toArray⟩ = T := ⟨_, rfl⟩
        have HTs : Hid (TR.size = rl) := Lib.hid (by rw [← hTR, Lib.size_eq]; exact hrl)
        have HDl : Hid (done.length ≤ k) := Lib.hid hdone
        have hrlz : rl < z - k := by omega
        obtain ⟨TP, hTP⟩ : ∃ T : ByteArray, ⟨p.toArray⟩ = T := ⟨_, rfl⟩
        rw [hTR, hTP] at cN
        have HTP := Lib.hid hTP
        have HTR := Lib.hid hTR
        have CN := Lib.hid cN
        have HTDz := Lib.hid hTDz
        clear cN hTR hTD hTP hrl hlen hk2 hn hD hdl hdone hlt hTDz
        repeat (first | (go_at_call 15; refine (CN.out _ (HEn.out.below HB.out)).mono ?_; rintro r w1 ⟨rfl, hb1⟩; simp only []; have HO1 := Lib.hid (owns_below HO.out hb1); have HB1 := Lib.hid (Below.trans HB.out (hb1.mono hbs)); have hbs1 := HB1.out.size; clear hb1) | (at_builtin; refine wpList_append_own _ rfl _ _ 22 rfl w.heap.size 9 i0 (.string ByteArray.empty) 1 16 Tryd.underlying22 hi hz0 hz1 hz2 rfl (by decide) _ _ _ rfl (HO1.out.alloc _) ⟨w1.heap.size, 0, none⟩ 1 1 [.string TP] rfl rfl (one_new _ _ _) (fun x hx => by simp at hx; subst hx; rfl) (by have := HDl.out; unfold maxLen; omega) (by have := HDl.out; omega) (by simp; omega) ?_; intro v' w3 hown' hgrow3 hnil3; have HO3 := Lib.hid hown'; have HB3 := Lib.hid ((HB1.out.alloc hbs1 (.cells #[.string TP] 9)).grown hgrow3 (by simp; omega) (fun j hj => (HO1.out.lt j hj).1)); clear hown' hgrow3 hnil3) | go_skip | go_guarded | go_step | go_upon)
        refine ⟨⟨k2, done ++ [p], ?_, ?_, ?_, ?_, ?_, HB3.out⟩, ?_⟩
        · rw [HR.out, ← HTR.out]; rfl
        · rw [HZ.out]; exact hkl
        · rw [List.length_append, List.length_singleton]; have := HDl.out; omega
        · rw [HE.out, HD.out, HA.out, HR.out, ← HK.out]
          simp only [List.append_assoc, List.singleton_append, Nat.add_assoc]
        · rw [List.length_append, List.length_singleton, List.map_append, List.map_singleton]
          have h := HO3.out
          rw [← HTP.out] at h
          exact h
        · show TR.size < TD.size
          rw [HTs.out, HTDz.out]
          exact hrlz
      · rw [hn] at cN
        simp only at cN
        have HA : Hid (allL D = ([], 0, e + 1)) := Lib.hid (all_bad (fun e0 => by rw [e0] at hdl; simp at hdl; omega) hn)
        obtain ⟨c, hc⟩ : ∃ c : Int, ((e + 1 : Nat) : Int) = c := ⟨_, rfl⟩
        have hc0 : (c != 0) = true := by simp; omega
        have HC := Lib.hid hc
        rw [hc] at cN
        have CN := Lib.hid cN
        obtain ⟨dl, hdl2⟩ : ∃ dl, z - k = dl := ⟨_, rfl⟩
        rw [hdl2] at hTDz
        have hsub : (z : Int) - (dl : Int) = k := by omega
        have hkz : (k : Int) ≤ z := by omega
        clear cN hTD hn hD hdl hdone hlt hc hdl2
        repeat (first | (go_at_call 15; refine (CN.out _ (HEn.out.below HB.out)).mono ?_; rintro r w1 ⟨rfl, hb1⟩; simp only []; have HO1 := Lib.hid (owns_below HO.out hb1); have HB1 := Lib.hid (Below.trans HB.out (hb1.mono hbs)); have hbs1 := HB1.out.size; clear hb1) | go_skip | go_guarded | go_step | go_upon)
        go_ret3
        exact AllPost.of (by rw [HE.out, HD.out, HA.out, List.append_nil, Nat.add_zero]) rfl HC.out.symm HO1.out HB1.out
    · have hkz2 : k = z := by omega
      have hne : TD.toList.isEmpty = true := by
        rw [Lib.toList_data, ← hTD]
        cases D with
        | nil => rfl
        | cons x D => simp at hdl; omega
      have HE2 : Hid (allL l = (done, z, 0)) := Lib.hid (by
        rw [HE.out, List.drop_of_length_le (by rw [HZ.out]; omega), all_nil, List.append_nil, Nat.add_zero, hkz2])
      clear hkz2 hTD hdl hdone hlt hTDz hD
      repeat (first | go_skip | go_guarded | go_step | go_upon)
      go_ret3
      exact AllPost.of HE2.out rfl rfl HO.out HB.out
end RF
end Go.Proofs.YtpcbbhbkiiklaaaDoor
