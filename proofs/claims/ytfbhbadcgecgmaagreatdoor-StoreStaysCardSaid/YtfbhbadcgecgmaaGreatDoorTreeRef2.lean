/- Layer 6: the contracts of the document's find, dir. -/
import Derived.Test.YtfbhbadcgecgmaaGreatDoorTreeRef1
namespace Go.Proofs.YtfbhbadcgecgmaaGreatDoor
open Go.RowKit Go.Lib Go.BigFrame
namespace TR
open OM TP TM

/-- What find answers. -/
def FindSays (ts : List Nd) (p : List UInt8) (z : Int) : Prop :=
  (∃ (k : Nat) (n : Nd), z = k ∧ ts[k]? = some n ∧ n.path = p ∧ ∀ (j : Nat) (m : Nd), j < k → ts[j]? = some m → m.path ≠ p) ∨ (z = -1 ∧ ∀ n ∈ ts, n.path ≠ p)
theorem find_says {ts : List Nd} {p : List UInt8} {z : Int} (h : FindSays ts p z) : (∃ (k : Nat) (n : Nd), z = k ∧ ts[k]? = some n ∧ findN ts p = some n) ∨ (z = -1 ∧ findN ts p = none) := by
  rcases h with ⟨k, n, rfl, h1, h2, h3⟩ | ⟨rfl, h⟩
  · refine .inl ⟨k, n, rfl, h1, ?_⟩
    unfold findN
    rw [List.find?_eq_some_iff_append]
    have hk := (List.getElem?_eq_some_iff.1 h1).1
    have hn := (List.getElem?_eq_some_iff.1 h1).2
    refine ⟨by simpa using h2, ts.take k, ts.drop (k + 1), ?_, fun m hm => ?_⟩
    · rw [← hn, ← List.drop_eq_getElem_cons hk, List.take_append_drop]
    · obtain ⟨j, hj, e⟩ := List.getElem_of_mem hm
      rw [List.length_take] at hj
      have := h3 j m (by omega) (by rw [← e, List.getElem_take]; exact List.getElem?_eq_getElem _)
      simpa using this
  · refine .inr ⟨rfl, ?_⟩
    unfold findN
    rw [List.find?_eq_none]
    intro n hn
    simpa using h n hn
set_option maxRecDepth 100000 in
set_option maxHeartbeats 1600000 in
theorem rfind_any (ao : Option Addr) (cap : Nat) (ts : List Nd) (p : List UInt8) (w : World) (h : LayN w ao ts) (hl : ts.length ≤ maxLen) :
    Calls Tryz.prog 116 #[.slice ao ts.length cap, txt p] w fun r w' => ∃ z, r = .returned (.int .i64 z) ∧ FindSays ts p z ∧ Below w.heap.size w w' := by
  obtain ⟨n, hn⟩ : ∃ n, ts.length = n := ⟨_, rfl⟩
  have HN := Lib.hid hn
  have HL := Lib.hid h
  unfold maxLen at hl
  rw [hn] at hl ⊢
  have hnz : (n : Int) ≤ 9223372036854775807 := by omega
  unfold txt
  obtain ⟨S, hS⟩ : ∃ S : ByteArray, ⟨p.toArray⟩ = S := ⟨_, rfl⟩
  have HS : Hid (S.data.toList = p) := Lib.hid (by rw [← hS])
  rw [hS]
  clear h hn hS hl
  go_enter Tryz.func116, Tryz.ntmps116
  repeat (first | go_skip | go_guarded | go_step | go_upon)
  go_loopw [5] (fun s3 wr => ∃ k : Nat, s3 = .int .i64 k ∧ k ≤ n ∧ (∀ (j : Nat) (m : Nd), j < k → ts[j]? = some m → m.path ≠ p) ∧ Below w.heap.size w wr) (fun s3 _ => n - (Go.RowKit.intOf s3).toNat)
  case atStart => exact ⟨0, rfl, Nat.zero_le _, fun j m hj => by omega, Below.refl _ _⟩
  case round =>
    obtain ⟨k, rfl, hk, hno, hb⟩ := hrel
    have HNo := Lib.hid hno
    have HB := Lib.hid hb
    have HLr := Lib.hid (HL.out.below hb)
    clear hno hb
    by_cases hlt : k < n
    · have hkz : (k : Int) < n := by omega
      obtain ⟨g, o, rfl, _, hc⟩ := HLr.out (by rw [HN.out]; omega)
      obtain ⟨x, hx⟩ : ∃ x, ts[k]? = some x := ⟨ts[k]'(by rw [HN.out]; exact hlt), List.getElem?_eq_getElem _⟩
      have c0 := (hc k x hx).p
      unfold txt at c0
      obtain ⟨X, hX⟩ : ∃ X : ByteArray, ⟨x.path.toArray⟩ = X := ⟨_, rfl⟩
      rw [hX] at c0
      have hXd : X.data.toList = x.path := by rw [← hX]
      by_cases he : x.path = p
      · have hb : (X.toList == S.toList) = true := by rw [Lib.toList_data, Lib.toList_data, hXd, HS.out, he]; simp
        have HF : Hid (FindSays ts p k) := Lib.hid (.inl ⟨k, x, rfl, hx, he, HNo.out⟩)
        clear hc hx hX hXd he
        repeat (first | go_skip | go_guarded | go_step | go_upon)
        go_ret
        exact ⟨_, rfl, HF.out, HB.out⟩
      · have hb : (X.toList == S.toList) = false := by rw [Lib.toList_data, Lib.toList_data, hXd, HS.out]; simpa using he
        have HNo2 : Hid (∀ (j : Nat) (m : Nd), j < k + 1 → ts[j]? = some m → m.path ≠ p) := Lib.hid (fun j m hj hm => by
          by_cases hjk : j = k
          · rw [hjk, hx] at hm
            cases hm
            exact he
          · exact HNo.out j m (by omega) hm)
        clear hc hx hX hXd he
        repeat (first | go_skip | go_guarded | go_step | go_upon)
        exact ⟨⟨k + 1, by go_num, by omega, HNo2.out, HB.out⟩, by simp [Go.RowKit.intOf]; omega⟩
    · have hkz : ¬ (k : Int) < n := by omega
      have HF : Hid (FindSays ts p (-1)) := Lib.hid (.inr ⟨rfl, fun m hm => by
        obtain ⟨j, hj, e⟩ := List.getElem_of_mem hm
        exact HNo.out j m (by have := HN.out; omega) (by rw [← e]; exact List.getElem?_eq_getElem _)⟩)
      clear hlt
      repeat (first | go_skip | go_guarded | go_step | go_upon)
      go_ret
      exact ⟨_, rfl, HF.out, HB.out⟩
set_option maxRecDepth 100000 in
set_option maxHeartbeats 1600000 in
theorem rdir_any (ao : Option Addr) (cap : Nat) (ts : List Nd) (p : List UInt8) (w : World) (h : LayN w ao ts) (hl : ts.length ≤ maxLen) :
    Calls Tryz.prog 72 #[.slice ao ts.length cap, txt p] w fun r w' => r = .returned (.bool (dirB ts p)) ∧ Below w.heap.size w w' := by
  have cF := rfind_any ao cap ts p w h hl
  obtain ⟨n, hn⟩ : ∃ n, ts.length = n := ⟨_, rfl⟩
  have HN := Lib.hid hn
  have HL := Lib.hid h
  unfold maxLen at hl
  rw [hn] at hl cF ⊢
  have hnz : (n : Int) ≤ 9223372036854775807 := by omega
  unfold txt at cF ⊢
  obtain ⟨S, hS⟩ : ∃ S : ByteArray, ⟨p.toArray⟩ = S := ⟨_, rfl⟩
  have HS : Hid (S.data.toList = p) := Lib.hid (by rw [← hS])
  rw [hS] at cF ⊢
  have CF := Lib.hid cF
  clear h hn hS hl cF
  by_cases h0 : p = []
  · have hb : S.toList.isEmpty = true := by rw [Lib.toList_data, HS.out, h0]; rfl
    have HB : Hid (dirB ts p = true) := Lib.hid (by unfold dirB; rw [decide_eq_true h0]; rfl)
    clear h0
    go_enter Tryz.func72, Tryz.ntmps72
    repeat (first | go_skip | go_guarded | go_step | go_upon)
    go_ret
    exact ⟨by rw [HB.out]; rfl, Below.refl _ _⟩
  · have hb : S.toList.isEmpty = false := by rw [Lib.toList_data, HS.out]; simpa using h0
    have HD : Hid (dirB ts p = (match findN ts p with | some n => decide (n.kind = 2) | none => false)) := Lib.hid (by unfold dirB; rw [decide_eq_false h0]; rfl)
    clear h0
    go_enter Tryz.func72, Tryz.ntmps72
    repeat (first | (go_at_call 116; fail) | go_skip | go_guarded | go_step | go_upon)
    refine CF.out.mono ?_
    rintro r w1 ⟨z, rfl, hs, hb1⟩
    simp only []
    have HB1 := Lib.hid hb1
    have HL1 := Lib.hid (HL.out.below hb1)
    rcases find_says hs with ⟨k, x, rfl, hx, hf⟩ | ⟨rfl, hf⟩
    · have hkl := (List.getElem?_eq_some_iff.1 hx).1
      have hkz : (k : Int) < n := by have := HN.out; omega
      obtain ⟨g, o, rfl, _, hc⟩ := HL1.out (by omega)
      have c1 := (hc k x hx).k
      obtain ⟨b, hbk⟩ : ∃ b, (x.kind == 2) = b := ⟨_, rfl⟩
      have HB : Hid (dirB ts p = b) := Lib.hid (by rw [HD.out, hf, ← hbk]; simp only; rw [Bool.eq_iff_iff]; simp)
      clear hs hb1 hf hx hc hkl
      repeat (first | go_skip | go_guarded | go_step | go_upon)
      go_ret
      exact ⟨by rw [HB.out]; rfl, HB1.out⟩
    · have HB : Hid (dirB ts p = false) := Lib.hid (by rw [HD.out, hf])
      clear hs hb1 hf
      repeat (first | go_skip | go_guarded | go_step | go_upon)
      go_ret
      exact ⟨by rw [HB.out]; rfl, HB1.out⟩
end TR
end Go.Proofs.YtfbhbadcgecgmaaGreatDoor
