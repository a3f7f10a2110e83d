/- Layer 5: the contracts of the document's One, All and Join. -/
import Derived.Test.YtpcbbhbkiiklaaaDoorRecRefN
import Derived.Test.YtpcbbhbkiiklaaaDoorRecMore
import Derived.Test.YtpcbbhbkiiklaaaDoorOwn
namespace Go.Proofs.YtpcbbhbkiiklaaaDoor
open Go.RowKit Go.Lib Go.BigFrame
namespace RQ
open HP HS RP OM

def txt (l : List UInt8) : Value := .string ⟨l.toArray⟩
def oneV (l : List UInt8) : Ending := .returned (.tuple #[txt (oneL l).2, .int .i64 ((oneL l).1 : Nat)])
set_option maxRecDepth 100000 in
set_option maxHeartbeats 1600000 in
theorem rone_any (CC : CrcOf) (l : List UInt8) (w : World) (hm : l.length ≤ 140737488355328) :
    Calls Tryd.prog 18 #[txt l] w fun r w' => r = oneV l ∧ Below w.heap.size w w' := by
  have cN := rnext_any CC l w hm
  unfold nextV at cN
  unfold txt
  rcases next_cases l with ⟨p, r, hn⟩ | ⟨e, hn, he⟩
  · rw [hn] at cN
    simp only at cN
    cases r with
    | nil =>
      have HV : Hid (oneV l = .returned (.tuple #[txt p, .int .i64 0])) := Lib.hid (by unfold oneV oneL; rw [hn]; rfl)
      have CN := Lib.hid cN
      clear cN hn
      go_enter Tryd.func18, Tryd.ntmps18
      go_wp2_with (go_at_call 16; refine CN.out.mono ?_; rintro r w1 ⟨rfl, hb1⟩; have HB1 := Lib.hid hb1; clear hb1)
      go_ret2
      exact ⟨HV.out.symm, HB1.out⟩
    | cons x r =>
      have HV : Hid (oneV l = .returned (.tuple #[.string ⟨#[]⟩, .int .i64 32])) := Lib.hid (by unfold oneV oneL; rw [hn]; rfl)
      have CN := Lib.hid cN
      obtain ⟨T, hT⟩ : ∃ T : ByteArray, ⟨(x :: r).toArray⟩ = T := ⟨_, rfl⟩
      have hTe : T.toList.isEmpty = false := by rw [← hT, Lib.toList_data]; rfl
      rw [hT] at CN
      clear cN hn hT
      go_enter Tryd.func18, Tryd.ntmps18
      go_wp2_with (go_at_call 16; refine CN.out.mono ?_; rintro r w1 ⟨rfl, hb1⟩; have HB1 := Lib.hid hb1; clear hb1)
      go_ret2
      exact ⟨by rw [HV.out]; rfl, HB1.out⟩
  · rw [hn] at cN
    simp only at cN
    have HV : Hid (oneV l = .returned (.tuple #[.string ⟨#[]⟩, .int .i64 ((e + 1 : Nat) : Int)])) := Lib.hid (by unfold oneV oneL; rw [hn]; rfl)
    obtain ⟨z, hz⟩ : ∃ z : Int, ((e + 1 : Nat) : Int) = z := ⟨_, rfl⟩
    have hz0 : (z == 0) = false := by simp; omega
    have hz1 : z ≠ 0 := by omega
    rw [hz] at HV cN
    have CN := Lib.hid cN
    clear cN hn hz
    go_enter Tryd.func18, Tryd.ntmps18
    go_wp2_with (go_at_call 16; refine CN.out.mono ?_; rintro r w1 ⟨rfl, hb1⟩; have HB1 := Lib.hid hb1; clear hb1)
    go_ret2
    exact ⟨HV.out.symm, HB1.out⟩
/-- What All answers, wherever the payloads lie. -/
def AllPost (l : List UInt8) (w : World) (r : Ending) (w' : World) : Prop :=
  ∃ v, r = .returned (.tuple #[v, .int .i64 ((allL l).2.1 : Nat), .int .i64 ((allL l).2.2 : Nat)]) ∧ w'.ownsRow w.heap.size 9 1 v (allL l).1.length ((allL l).1.map txt) ∧ Below w.heap.size w w'
theorem AllPost.of {l : List UInt8} {w w' : World} {v : Value} {done : List (List UInt8)} {k e : Nat} {a b : Int} (h : allL l = (done, k, e)) (ha : a = (k : Nat)) (hb : b = (e : Nat)) (ho : w'.ownsRow w.heap.size 9 1 v done.length (done.map txt)) (hw : Below w.heap.size w w') :
    AllPost l w (.returned (.tuple #[v, .int .i64 a, .int .i64 b])) w' := by
  subst ha hb
  refine ⟨v, ?_, ?_, hw⟩
  · rw [h]
  · rw [h]; exact ho
theorem infoS : (Tryd.prog.info? 9).map (fun i => (i.zero, i.size, i.bytes)) = some (some (.string ByteArray.empty), 1, 16) := by kernel_rfl
/-- The loop's state: what is read, and what is left. -/
def RAll (l : List UInt8) (w : World) (s5 s6 _s7 _s8 _s9 : Value) (wr : World) : Prop :=
  ∃ (k : Nat) (done : List (List UInt8)), s6 = .int .i64 k ∧ k ≤ l.length ∧ done.length ≤ k ∧ allL l = (done ++ (allL (l.drop k)).1, k + (allL (l.drop k)).2.1, (allL (l.drop k)).2.2) ∧
    wr.ownsRow w.heap.size 9 1 s5 done.length (done.map txt) ∧ Below w.heap.size w wr
set_option maxRecDepth 100000 in
set_option maxHeartbeats 1600000 in
theorem rall_any (CC : CrcOf) (l : List UInt8) (w : World) (hm : l.length ≤ 1048576) :
    Calls Tryd.prog 14 #[txt l] w (AllPost l w) := by
  obtain ⟨i0, hi, hz0, hz1, hz2⟩ := info_parts infoS
  obtain ⟨z, hz⟩ : ∃ z, l.length = z := ⟨_, rfl⟩
  obtain ⟨S, hS⟩ : ∃ S : ByteArray, ⟨l.toArray⟩ = S := ⟨_, rfl⟩
  have hSz : S.size = z := by rw [← hS, Lib.size_eq]; exact hz
  have hSd : S.data.toList = l := by rw [← hS]
  have HSF : Hid (∀ k, k ≤ z → ∀ W, (Instr.slice 9 (.string S) (some (.int .i64 (k : Nat))) none none).run Tryd.prog W = .ok (txt (l.drop k)) W) := Lib.hid (fun k hk W => by
    have h := sl_from S k k rfl (by omega) W
    rw [hSd] at h
    exact h)
  have HZ := Lib.hid hz
  have hzm : z ≤ 1048576 := by omega
  unfold txt
  rw [hS]
  clear hS hSd hm hz
  go_enter Tryd.func14, Tryd.ntmps14
  go_wp2
  go_loopw [5, 6, 7, 8, 9] (RAll l w) (fun _ s6 _ _ _ _ => z - (Go.RowKit.intOf s6).toNat)
  case atStart => exact ⟨0, [], rfl, Nat.zero_le _, Nat.zero_le _, by rw [List.drop_zero, List.nil_append, Nat.zero_add], World.ownsRow_nil _ _ _ _, Below.refl _ _⟩
  case round =>
    obtain ⟨k, done, rfl, hk, hdone, he, ho, hb⟩ := hrel
    rw [HZ.out] at hk
    have HO := Lib.hid ho
    have HB := Lib.hid hb
    have HE := Lib.hid he
    have hbs := hb.size
    clear ho hb he
    by_cases hlt : k < z
    · have hkz : (k : Int) < z := by omega
      have hsl := HSF.out k hk
      have hdl : (l.drop k).length = z - k := by rw [List.length_drop, HZ.out]
      obtain ⟨D, hD⟩ : ∃ D, l.drop k = D := ⟨_, rfl⟩
      have cN := fun W => rnext_any CC D W (by rw [← hD, hdl]; omega)
      unfold nextV at cN
      unfold txt at hsl
      rw [hD] at hsl hdl
      have HD := Lib.hid hD
      rcases next_cases D with ⟨p, r, hn⟩ | ⟨e, hn, he⟩
      · rw [hn] at cN
        simp only at cN
        obtain ⟨rl, hrl⟩ : ∃ rl, r.length = rl := ⟨_, rfl⟩
        have hlen := next_shrinks hn
        obtain ⟨k2, hk2⟩ : ∃ k2, z - rl = k2 := ⟨_, rfl⟩
        have HR : Hid (l.drop k2 = r) := Lib.hid (by
          have h1 : D.drop (D.length - r.length) = r := by
            rw [(next_ok hn).1, List.length_append, Nat.add_sub_cancel, List.drop_append_of_le_length (Nat.le_refl _), List.drop_of_length_le (Nat.le_refl _), List.nil_append]
          rw [← hD, List.drop_drop] at h1
          rw [← h1]
          congr 1
          rw [hD]
          omega)
        have HA : Hid (allL D = (p :: (allL r).1, D.length - r.length + (allL r).2.1, (allL r).2.2)) := Lib.hid (all_step hn)
        have HK : Hid (k + (D.length - r.length) = k2) := Lib.hid (by omega)
        have hkk : k + 8 ≤ k2 := by omega
        have hkl : k2 ≤ z := by omega
        have hsub : (z : Int) - (rl : Int) = k2 := by omega
        obtain ⟨TR, hTR⟩ : ∃ T : ByteArray, ⟨r.toArray⟩ = T := ⟨_, rfl⟩
        have hTs : TR.size = rl := by rw [← hTR, Lib.size_eq]; exact hrl
        have HDl : Hid (done.length ≤ k) := Lib.hid hdone
        obtain ⟨TD, hTD⟩ : ∃ T : ByteArray, ⟨D.toArray⟩ = T := ⟨_, rfl⟩
        obtain ⟨TP, hTP⟩ : ∃ T : ByteArray, ⟨p.toArray⟩ = T := ⟨_, rfl⟩
        rw [hTR, hTD, hTP] at cN
        rw [hTD] at hsl
        have HTP := Lib.hid hTP
        have CN := Lib.hid cN
        clear cN hTR hTD hTP hrl hlen hk2 hn hD hdl hdone hlt
        go_wp2_with (first | (go_at_call 16; refine (CN.out _).mono ?_; rintro r w1 ⟨rfl, hb1⟩; have HO1 := Lib.hid (owns_below HO.out hb1); have HB1 := Lib.hid (Below.trans HB.out (hb1.mono hbs)); have hbs1 := HB1.out.size; clear hb1) | (at_builtin; refine wpList_append_own _ rfl _ _ 22 rfl w.heap.size 9 i0 (.string ByteArray.empty) 1 16 Tryd.underlying22 hi hz0 hz1 hz2 rfl (by decide) _ _ _ rfl (HO1.out.alloc _) ⟨w1.heap.size, 0, none⟩ 1 1 [.string TP] rfl rfl (one_new _ _ _) (fun x hx => by simp at hx; subst hx; rfl) (by have := HDl.out; unfold maxLen; omega) (by have := HDl.out; omega) (by simp; omega) ?_; intro v' w3 hown' hgrow3 hnil3; have HO3 := Lib.hid hown'; have HB3 := Lib.hid ((HB1.out.alloc hbs1 (.cells #[.string TP] 9)).grown hgrow3 (by simp; omega) (fun j hj => (HO1.out.lt j hj).1)); clear hown' hgrow3 hnil3))
        refine ⟨⟨k2, done ++ [p], rfl, ?_, ?_, ?_, ?_, HB3.out⟩, ?_⟩
        · rw [HZ.out]; exact hkl
        · rw [List.length_append, List.length_singleton]; have := HDl.out; omega
        · rw [HE.out, HD.out, HA.out, HR.out, ← HK.out]
          simp only [List.append_assoc, List.singleton_append, Nat.add_assoc]
        · rw [List.length_append, List.length_singleton, List.map_append, List.map_singleton]
          have h := HO3.out
          rw [← HTP.out] at h
          exact h
        · simp [Go.RowKit.intOf]; omega
      · rw [hn] at cN
        simp only at cN
        have HA : Hid (allL D = ([], 0, e + 1)) := Lib.hid (all_bad (fun e0 => by rw [e0] at hdl; simp at hdl; omega) hn)
        obtain ⟨TD, hTD⟩ : ∃ T : ByteArray, ⟨D.toArray⟩ = T := ⟨_, rfl⟩
        obtain ⟨c, hc⟩ : ∃ c : Int, ((e + 1 : Nat) : Int) = c := ⟨_, rfl⟩
        have hc0 : (c != 0) = true := by simp; omega
        have HC := Lib.hid hc
        rw [hTD, hc] at cN
        rw [hTD] at hsl
        have CN := Lib.hid cN
        clear cN hTD hn hD hdl hdone hlt hc
        repeat (first | (go_at_call 16; refine (CN.out _).mono ?_; rintro r w1 ⟨rfl, hb1⟩; simp only []; have HO1 := Lib.hid (owns_below HO.out hb1); have HB1 := Lib.hid (Below.trans HB.out (hb1.mono hbs)); have hbs1 := HB1.out.size; clear hb1) | go_skip | go_guarded | go_step | go_upon)
        go_ret3
        exact AllPost.of (by rw [HE.out, HD.out, HA.out, List.append_nil, Nat.add_zero]) rfl HC.out.symm HO1.out HB1.out
    · have hkz : ¬ (k : Int) < z := by omega
      have hkz2 : k = z := by omega
      have HE2 : Hid (allL l = (done, z, 0)) := Lib.hid (by
        rw [HE.out, List.drop_of_length_le (by rw [HZ.out]; omega), all_nil, List.append_nil, Nat.add_zero, hkz2])
      subst hkz2
      clear hdone hlt
      repeat (first | go_skip | go_guarded | go_step | go_upon)
      go_ret3
      exact AllPost.of HE2.out rfl rfl HO.out HB.out
end RQ
end Go.Proofs.YtpcbbhbkiiklaaaDoor
