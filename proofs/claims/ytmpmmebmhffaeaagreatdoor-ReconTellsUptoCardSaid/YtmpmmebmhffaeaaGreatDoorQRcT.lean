/- Layer 6: the contracts of the document's right, find, dir, Check (cut of stage 9). -/
import Derived.Test.YtmpmmebmhffaeaaGreatDoorQBase
import Derived.Test.YtmpmmebmhffaeaaGreatDoorQR01
import Derived.Test.YtmpmmebmhffaeaaGreatDoorQArEq
import Derived.WalkKit
import Derived.WalkMore
import Derived.IntWalk
import Derived.Below
import Derived.Lib.Hide
import Derived.BigRegion
import Derived.BigQuiet
import Derived.Deep.RegionWith
import Derived.Lib.QuietBelow
import Derived.Lib.IndexBytes
set_option linter.all false
set_option maxRecDepth 100000
set_option maxHeartbeats 25600000
namespace Go.Proofs.YtmpmmebmhffaeaaGreatDoor
section
open Go.RowKit Go.Lib Go.BigFrame
namespace TR
open OM TP TM

theorem byte_at (p : ByteArray) (i : Nat) (h : i < p.size) (z : Int) (hz : z = i) :
    ∃ x : Nat, (p.data.toList.getD i 0).toNat = x ∧ (x : Int) < 256 ∧ ∀ W, (Instr.index 9 (.string p) (.int .i64 z)).run Tryz.prog W = .ok (.int .u8 (x : Nat)) W := by
  subst hz
  refine ⟨_, rfl, ?_, fun W => ?_⟩
  · have := (p.data.toList.getD i 0).toNat_lt
    omega
  · have h0 : 0 ≤ (i : Int) ∧ (i : Int) < (p.size : Int) := by omega
    rw [run_index_string W 9 p .i64 (i : Int) Tryz.underlying9, dif_pos h0]
    have e := Lib.data_getElem? p i h
    rw [List.getD_eq_getElem?_getD, e]
    rfl
theorem contains_take {l : List UInt8} {k : Nat} {x : UInt8} (h : l[k]? = some x) (h0 : (l.take k).contains 0 = false) : (l.take (k + 1)).contains 0 = decide (x = 0) := by
  rw [List.take_add_one, h, Option.toList_some, List.contains_append, h0, Bool.false_or]
  simp [eq_comm]
set_option maxRecDepth 100000 in
set_option maxHeartbeats 3200000 in
theorem rright_any (n : Nd) (w : World) (hd : n.data.length ≤ maxLen) : Calls Tryz.prog 46 #[ndVal n] w fun r w' => r = .returned (.bool (rightB n)) ∧ Below w.heap.size w w' := by
  obtain ⟨p, k, d, m⟩ := n
  unfold ndVal txt
  simp only at hd ⊢
  obtain ⟨S, hS⟩ : ∃ S : ByteArray, ⟨d.toArray⟩ = S := ⟨_, rfl⟩
  have hSd : S.data.toList = d := by rw [← hS]
  obtain ⟨dl, hdl⟩ : ∃ dl, d.length = dl := ⟨_, rfl⟩
  have hSz : S.size = dl := by rw [Lib.size_eq, hSd]; exact hdl
  unfold maxLen at hd
  rw [hS]
  have B0 : Hid (Below w.heap.size w (w.alloc (.cells #[.string ⟨p.toArray⟩, .int .i64 k, .string S, .int .i64 m] 40))) := Lib.hid ((Below.refl _ _).alloc (Nat.le_refl _) _)
  by_cases h1 : k = 1
  · have k1 : (k == 1) = true := by simp [h1]
    have HR : Hid (rightB ⟨p, k, d, m⟩ = (decide (dl ≤ 65536) && decide (0 ≤ m) && decide (m ≤ 511))) := Lib.hid (by unfold rightB; simp only; rw [if_pos h1, hdl])
    clear hS hSd hdl hd h1
    by_cases a1 : dl ≤ 65536
    · have b1 : (dl : Int) ≤ 65536 := by omega
      by_cases a2 : 0 ≤ m
      · by_cases a3 : m ≤ 511
        · have HB : Hid (rightB ⟨p, k, d, m⟩ = true) := Lib.hid (by rw [HR.out, decide_eq_true a1, decide_eq_true a2, decide_eq_true a3]; rfl)
          clear a1
          go_enter Tryz.func46, Tryz.ntmps46
          repeat (first | go_skip | go_guarded | go_step | go_upon)
          go_ret
          exact ⟨by rw [HB.out]; rfl, B0.out⟩
        · have HB : Hid (rightB ⟨p, k, d, m⟩ = false) := Lib.hid (by rw [HR.out, decide_eq_false a3]; simp)
          clear a1
          go_enter Tryz.func46, Tryz.ntmps46
          repeat (first | go_skip | go_guarded | go_step | go_upon)
          go_ret
          exact ⟨by rw [HB.out]; rfl, B0.out⟩
      · have HB : Hid (rightB ⟨p, k, d, m⟩ = false) := Lib.hid (by rw [HR.out, decide_eq_false a2]; simp)
        clear a1
        go_enter Tryz.func46, Tryz.ntmps46
        repeat (first | go_skip | go_guarded | go_step | go_upon)
        go_ret
        exact ⟨by rw [HB.out]; rfl, B0.out⟩
    · have b1 : ¬ (dl : Int) ≤ 65536 := by omega
      have HB : Hid (rightB ⟨p, k, d, m⟩ = false) := Lib.hid (by rw [HR.out, decide_eq_false a1]; simp)
      clear a1
      go_enter Tryz.func46, Tryz.ntmps46
      repeat (first | go_skip | go_guarded | go_step | go_upon)
      go_ret
      exact ⟨by rw [HB.out]; rfl, B0.out⟩
  · have k1 : (k == 1) = false := by simp [h1]
    by_cases h2 : k = 2
    · have k2 : (k == 2) = true := by simp [h2]
      have HR : Hid (rightB ⟨p, k, d, m⟩ = (decide (d = []) && decide (m = 0))) := Lib.hid (by unfold rightB; simp only; rw [if_neg h1, if_pos h2])
      clear hdl hd h1 h2 hSz
      by_cases a1 : d = []
      · have b1 : S.toList.isEmpty = true := by rw [Lib.toList_data, hSd, a1]; rfl
        by_cases a2 : m = 0
        · have b2 : (m == 0) = true := by simp [a2]
          have HB : Hid (rightB ⟨p, k, d, m⟩ = true) := Lib.hid (by rw [HR.out, decide_eq_true a1, decide_eq_true a2]; rfl)
          clear a1 a2 hS hSd
          go_enter Tryz.func46, Tryz.ntmps46
          repeat (first | go_skip | go_guarded | go_step | go_upon)
          go_ret
          exact ⟨by rw [HB.out]; rfl, B0.out⟩
        · have b2 : (m == 0) = false := by simp [a2]
          have HB : Hid (rightB ⟨p, k, d, m⟩ = false) := Lib.hid (by rw [HR.out, decide_eq_false a2]; simp)
          clear a1 a2 hS hSd
          go_enter Tryz.func46, Tryz.ntmps46
          repeat (first | go_skip | go_guarded | go_step | go_upon)
          go_ret
          exact ⟨by rw [HB.out]; rfl, B0.out⟩
      · have b1 : S.toList.isEmpty = false := by rw [Lib.toList_data, hSd]; simp [a1]
        have HB : Hid (rightB ⟨p, k, d, m⟩ = false) := Lib.hid (by rw [HR.out, decide_eq_false a1]; simp)
        clear a1 hS hSd
        go_enter Tryz.func46, Tryz.ntmps46
        repeat (first | go_skip | go_guarded | go_step | go_upon)
        go_ret
        exact ⟨by rw [HB.out]; rfl, B0.out⟩
    · have k2 : (k == 2) = false := by simp [h2]
      by_cases h3 : k = 3
      · have k3 : (k == 3) = true := by simp [h3]
        have HR : Hid (rightB ⟨p, k, d, m⟩ = (!(d.contains 0) && decide (1 ≤ dl) && decide (dl ≤ 400) && decide (m = 0))) := Lib.hid (by unfold rightB; simp only; rw [if_neg h1, if_neg h2, if_pos h3, hdl])
        have HSd := Lib.hid hSd
        have HDl := Lib.hid hdl
        have hdz : (dl : Int) ≤ 9223372036854775807 := by omega
        clear hS hSd hdl h1 h2 h3 hd
        go_enter Tryz.func46, Tryz.ntmps46
        repeat (first | go_skip | go_guarded | go_step | go_upon)
        go_loop [3] (fun s3 => ∃ j : Nat, s3 = .int .i64 j ∧ j ≤ dl ∧ (d.take j).contains 0 = false) (fun s3 => dl - (Go.RowKit.intOf s3).toNat)
        case atStart => exact ⟨0, rfl, Nat.zero_le _, rfl⟩
        case round =>
          obtain ⟨j, rfl, hj, hc⟩ := hrel
          have HC := Lib.hid hc
          clear hc
          by_cases hlt : j < dl
          · have hjz : (j : Int) < dl := by omega
            obtain ⟨x, hx⟩ : ∃ x, d[j]? = some x := ⟨d[j]'(by rw [HDl.out]; exact hlt), List.getElem?_eq_getElem _⟩
            obtain ⟨xn, hxn, hxl, i0⟩ := byte_at S j (by omega) j rfl
            rw [HSd.out, List.getD_eq_getElem?_getD, hx, Option.getD_some] at hxn
            by_cases h0 : x = 0
            · have hx0 : ((xn : Int) == 0) = true := by rw [← hxn, h0]; rfl
              have HB : Hid (rightB ⟨p, k, d, m⟩ = false) := Lib.hid (by
                have h4 : d.contains 0 = true := by
                  have := List.mem_of_getElem? hx
                  rw [h0] at this
                  simpa using this
                rw [HR.out, h4]
                simp)
              clear hx hxn h0
              repeat (first | go_skip | go_guarded | go_step | go_upon)
              go_ret
              exact ⟨by rw [HB.out]; rfl, B0.out⟩
            · have hx0 : ((xn : Int) == 0) = false := by
                simp only [beq_eq_false_iff_ne]
                intro e
                exact h0 (UInt8.toNat_inj.1 (by rw [hxn]; show xn = 0; omega))
              have HC2 : Hid ((d.take (j + 1)).contains 0 = false) := Lib.hid (by rw [contains_take hx HC.out]; simp [h0])
              clear hx hxn h0
              repeat (first | go_skip | go_guarded | go_step | go_upon)
              exact ⟨⟨j + 1, by go_num, by omega, HC2.out⟩, by simp [Go.RowKit.intOf]; omega⟩
          · have hjz : ¬ (j : Int) < dl := by omega
            have HR2 : Hid (rightB ⟨p, k, d, m⟩ = (decide (1 ≤ dl) && decide (dl ≤ 400) && decide (m = 0))) := Lib.hid (by
              have := HC.out
              rw [List.take_of_length_le (by rw [HDl.out]; omega)] at this
              rw [HR.out, this]
              simp)
            clear HR
            by_cases a1 : 1 ≤ dl
            · have b1 : (1 : Int) ≤ dl := by omega
              by_cases a2 : dl ≤ 400
              · have b2 : (dl : Int) ≤ 400 := by omega
                by_cases a3 : m = 0
                · have b3 : (m == 0) = true := by simp [a3]
                  have HB : Hid (rightB ⟨p, k, d, m⟩ = true) := Lib.hid (by rw [HR2.out, decide_eq_true a1, decide_eq_true a2, decide_eq_true a3]; rfl)
                  clear a1 a2 a3 hlt
                  repeat (first | go_skip | go_guarded | go_step | go_upon)
                  go_ret
                  exact ⟨by rw [HB.out]; rfl, B0.out⟩
                · have b3 : (m == 0) = false := by simp [a3]
                  have HB : Hid (rightB ⟨p, k, d, m⟩ = false) := Lib.hid (by rw [HR2.out, decide_eq_false a3]; simp)
                  clear a1 a2 a3 hlt
                  repeat (first | go_skip | go_guarded | go_step | go_upon)
                  go_ret
                  exact ⟨by rw [HB.out]; rfl, B0.out⟩
              · have b2 : ¬ (dl : Int) ≤ 400 := by omega
                have HB : Hid (rightB ⟨p, k, d, m⟩ = false) := Lib.hid (by rw [HR2.out, decide_eq_false a2]; simp)
                clear a1 a2 hlt
                repeat (first | go_skip | go_guarded | go_step | go_upon)
                go_ret
                exact ⟨by rw [HB.out]; rfl, B0.out⟩
            · have b1 : ¬ (1 : Int) ≤ dl := by omega
              have HB : Hid (rightB ⟨p, k, d, m⟩ = false) := Lib.hid (by rw [HR2.out, decide_eq_false a1]; simp)
              clear a1 hlt
              repeat (first | go_skip | go_guarded | go_step | go_upon)
              go_ret
              exact ⟨by rw [HB.out]; rfl, B0.out⟩
      · have k3 : (k == 3) = false := by simp [h3]
        have HB : Hid (rightB ⟨p, k, d, m⟩ = false) := Lib.hid (by unfold rightB; simp only; rw [if_neg h1, if_neg h2, if_neg h3])
        clear hS hSd hdl hd h1 h2 h3
        go_enter Tryz.func46, Tryz.ntmps46
        repeat (first | go_skip | go_guarded | go_step | go_upon)
        go_ret
        exact ⟨by rw [HB.out]; rfl, B0.out⟩
end TR
end
section
open Go.RowKit Go.Lib Go.BigFrame
namespace TR
open OM TP TM

/-- What find answers. -/
def FindSays (ts : List Nd) (p : List UInt8) (z : Int) : Prop :=
  (∃ (k : Nat) (n : Nd), z = k ∧ ts[k]? = some n ∧ n.path = p ∧ ∀ (j : Nat) (m : Nd), j < k → ts[j]? = some m → m.path ≠ p) ∨ (z = -1 ∧ ∀ n ∈ ts, n.path ≠ p)
theorem find_says {ts : List Nd} {p : List UInt8} {z : Int} (h : FindSays ts p z) : (∃ (k : Nat) (n : Nd), z = k ∧ ts[k]? = some n ∧ findN ts p = some n) ∨ (z = -1 ∧ findN ts p = none) := by
  rcases h with ⟨k, n, rfl, h1, h2, h3⟩ | ⟨rfl, h⟩
  · refine .inl ⟨k, n, rfl, h1, ?_⟩
    unfold findN
    rw [List.find?_eq_some_iff_append]
    have hk := (List.getElem?_eq_some_iff.1 h1).1
    have hn := (List.getElem?_eq_some_iff.1 h1).2
    refine ⟨by simpa using h2, ts.take k, ts.drop (k + 1), ?_, fun m hm => ?_⟩
    · rw [← hn, ← List.drop_eq_getElem_cons hk, List.take_append_drop]
    · obtain ⟨j, hj, e⟩ := List.getElem_of_mem hm
      rw [List.length_take] at hj
      have := h3 j m (by omega) (by rw [← e, List.getElem_take]; exact List.getElem?_eq_getElem _)
      simpa using this
  · refine .inr ⟨rfl, ?_⟩
    unfold findN
    rw [List.find?_eq_none]
    intro n hn
    simpa using h n hn
set_option maxRecDepth 100000 in
set_option maxHeartbeats 1600000 in
theorem rfind_any (ao : Option Addr) (cap : Nat) (ts : List Nd) (p : List UInt8) (w : World) (h : LayN w ao ts) (hl : ts.length ≤ maxLen) :
    Calls Tryz.prog 69 #[.slice ao ts.length cap, txt p] w fun r w' => ∃ z, r = .returned (.int .i64 z) ∧ FindSays ts p z ∧ Below w.heap.size w w' := by
  obtain ⟨n, hn⟩ : ∃ n, ts.length = n := ⟨_, rfl⟩
  have HN := Lib.hid hn
  have HL := Lib.hid h
  unfold maxLen at hl
  rw [hn] at hl ⊢
  have hnz : (n : Int) ≤ 9223372036854775807 := by omega
  unfold txt
  obtain ⟨S, hS⟩ : ∃ S : ByteArray, ⟨p.toArray⟩ = S := ⟨_, rfl⟩
  have HS : Hid (S.data.toList = p) := Lib.hid (by rw [← hS])
  rw [hS]
  clear h hn hS hl
  go_enter Tryz.func69, Tryz.ntmps69
  repeat (first | go_skip | go_guarded | go_step | go_upon)
  go_loopw [5] (fun s3 wr => ∃ k : Nat, s3 = .int .i64 k ∧ k ≤ n ∧ (∀ (j : Nat) (m : Nd), j < k → ts[j]? = some m → m.path ≠ p) ∧ Below w.heap.size w wr) (fun s3 _ => n - (Go.RowKit.intOf s3).toNat)
  case atStart => exact ⟨0, rfl, Nat.zero_le _, fun j m hj => by omega, Below.refl _ _⟩
  case round =>
    obtain ⟨k, rfl, hk, hno, hb⟩ := hrel
    have HNo := Lib.hid hno
    have HB := Lib.hid hb
    have HLr := Lib.hid (HL.out.below hb)
    clear hno hb
    by_cases hlt : k < n
    · have hkz : (k : Int) < n := by omega
      obtain ⟨g, o, rfl, _, hc⟩ := HLr.out (by rw [HN.out]; omega)
      obtain ⟨x, hx⟩ : ∃ x, ts[k]? = some x := ⟨ts[k]'(by rw [HN.out]; exact hlt), List.getElem?_eq_getElem _⟩
      have c0 := (hc k x hx).p
      unfold txt at c0
      obtain ⟨X, hX⟩ : ∃ X : ByteArray, ⟨x.path.toArray⟩ = X := ⟨_, rfl⟩
      rw [hX] at c0
      have hXd : X.data.toList = x.path := by rw [← hX]
      by_cases he : x.path = p
      · have hb : (X.toList == S.toList) = true := by rw [Lib.toList_data, Lib.toList_data, hXd, HS.out, he]; simp
        have HF : Hid (FindSays ts p k) := Lib.hid (.inl ⟨k, x, rfl, hx, he, HNo.out⟩)
        clear hc hx hX hXd he
        repeat (first | go_skip | go_guarded | go_step | go_upon)
        go_ret
        exact ⟨_, rfl, HF.out, HB.out⟩
      · have hb : (X.toList == S.toList) = false := by rw [Lib.toList_data, Lib.toList_data, hXd, HS.out]; simpa using he
        have HNo2 : Hid (∀ (j : Nat) (m : Nd), j < k + 1 → ts[j]? = some m → m.path ≠ p) := Lib.hid (fun j m hj hm => by
          by_cases hjk : j = k
          · rw [hjk, hx] at hm
            cases hm
            exact he
          · exact HNo.out j m (by omega) hm)
        clear hc hx hX hXd he
        repeat (first | go_skip | go_guarded | go_step | go_upon)
        exact ⟨⟨k + 1, by go_num, by omega, HNo2.out, HB.out⟩, by simp [Go.RowKit.intOf]; omega⟩
    · have hkz : ¬ (k : Int) < n := by omega
      have HF : Hid (FindSays ts p (-1)) := Lib.hid (.inr ⟨rfl, fun m hm => by
        obtain ⟨j, hj, e⟩ := List.getElem_of_mem hm
        exact HNo.out j m (by have := HN.out; omega) (by rw [← e]; exact List.getElem?_eq_getElem _)⟩)
      clear hlt
      repeat (first | go_skip | go_guarded | go_step | go_upon)
      go_ret
      exact ⟨_, rfl, HF.out, HB.out⟩
set_option maxRecDepth 100000 in
set_option maxHeartbeats 1600000 in
theorem rdir_any (ao : Option Addr) (cap : Nat) (ts : List Nd) (p : List UInt8) (w : World) (h : LayN w ao ts) (hl : ts.length ≤ maxLen) :
    Calls Tryz.prog 47 #[.slice ao ts.length cap, txt p] w fun r w' => r = .returned (.bool (dirB ts p)) ∧ Below w.heap.size w w' := by
  have cF := rfind_any ao cap ts p w h hl
  obtain ⟨n, hn⟩ : ∃ n, ts.length = n := ⟨_, rfl⟩
  have HN := Lib.hid hn
  have HL := Lib.hid h
  unfold maxLen at hl
  rw [hn] at hl cF ⊢
  have hnz : (n : Int) ≤ 9223372036854775807 := by omega
  unfold txt at cF ⊢
  obtain ⟨S, hS⟩ : ∃ S : ByteArray, ⟨p.toArray⟩ = S := ⟨_, rfl⟩
  have HS : Hid (S.data.toList = p) := Lib.hid (by rw [← hS])
  rw [hS] at cF ⊢
  have CF := Lib.hid cF
  clear h hn hS hl cF
  by_cases h0 : p = []
  · have hb : S.toList.isEmpty = true := by rw [Lib.toList_data, HS.out, h0]; rfl
    have HB : Hid (dirB ts p = true) := Lib.hid (by unfold dirB; rw [decide_eq_true h0]; rfl)
    clear h0
    go_enter Tryz.func47, Tryz.ntmps47
    repeat (first | go_skip | go_guarded | go_step | go_upon)
    go_ret
    exact ⟨by rw [HB.out]; rfl, Below.refl _ _⟩
  · have hb : S.toList.isEmpty = false := by rw [Lib.toList_data, HS.out]; simpa using h0
    have HD : Hid (dirB ts p = (match findN ts p with | some n => decide (n.kind = 2) | none => false)) := Lib.hid (by unfold dirB; rw [decide_eq_false h0]; rfl)
    clear h0
    go_enter Tryz.func47, Tryz.ntmps47
    repeat (first | (go_at_call 69; fail) | go_skip | go_guarded | go_step | go_upon)
    refine CF.out.mono ?_
    rintro r w1 ⟨z, rfl, hs, hb1⟩
    simp only []
    have HB1 := Lib.hid hb1
    have HL1 := Lib.hid (HL.out.below hb1)
    rcases find_says hs with ⟨k, x, rfl, hx, hf⟩ | ⟨rfl, hf⟩
    · have hkl := (List.getElem?_eq_some_iff.1 hx).1
      have hkz : (k : Int) < n := by have := HN.out; omega
      obtain ⟨g, o, rfl, _, hc⟩ := HL1.out (by omega)
      have c1 := (hc k x hx).k
      obtain ⟨b, hbk⟩ : ∃ b, (x.kind == 2) = b := ⟨_, rfl⟩
      have HB : Hid (dirB ts p = b) := Lib.hid (by rw [HD.out, hf, ← hbk]; simp only; rw [Bool.eq_iff_iff]; simp)
      clear hs hb1 hf hx hc hkl
      repeat (first | go_skip | go_guarded | go_step | go_upon)
      go_ret
      exact ⟨by rw [HB.out]; rfl, HB1.out⟩
    · have HB : Hid (dirB ts p = false) := Lib.hid (by rw [HD.out, hf])
      clear hs hb1 hf
      repeat (first | go_skip | go_guarded | go_step | go_upon)
      go_ret
      exact ⟨by rw [HB.out]; rfl, HB1.out⟩
end TR
end
section
open Go.RowKit Go.Lib Go.BigFrame
namespace TP
open NP
theorem chain_snoc : ∀ (l : List Nd) (y x : Nd), chainB (l ++ [y, x]) = (chainB (l ++ [y]) && decide (ordL y.path x.path < 0))
  | [], y, x => by simp [chainB]
  | [a], y, x => by simp [chainB, Bool.and_assoc]
  | a :: b :: l, y, x => by
    have ih := chain_snoc (b :: l) y x
    simp only [List.cons_append] at ih ⊢
    rw [chainB, ih, chainB, Bool.and_assoc]
theorem chain_pre {a b : List Nd} (h : chainB (a ++ b) = true) : chainB a = true := (chain_iff a).2 ((List.pairwise_append.1 ((chain_iff (a ++ b)).1 h)).1)
theorem take_two {l : List Nd} {k : Nat} {y x : Nd} (h1 : l[k]? = some y) (h2 : l[k + 1]? = some x) : l.take (k + 2) = l.take k ++ [y, x] ∧ l.take (k + 1) = l.take k ++ [y] := by
  have e1 : l.take (k + 1) = l.take k ++ [y] := by rw [List.take_add_one, h1]; rfl
  refine ⟨?_, e1⟩
  rw [show k + 2 = k + 1 + 1 from rfl, List.take_add_one, h2, e1]
  simp
end TP
namespace TR
open OM TP TM

/-- A callee's contract, met in a world of a region that draws its order. -/
theorem reg_of {f : FuncId} {args : Array Value} {v : Value} {w : World} (h : ∀ W, Below w.heap.size w W → Calls Tryz.prog f args W fun e w' => e = .returned v ∧ Below W.heap.size W w') (d : Nat) (os : Array Obj) :
    Calls Tryz.prog f args (Go.Sort.grow (redrawn w d) os) fun e w'' => e = .returned v ∧ ∃ p : Regrown, w'' = Go.Sort.grow (redrawn w p.d) p.os := Calls.regrown_of (h _ (below_regrown w d os))
/-- Texts of at most this size. -/
def Small (ts : List Nd) : Prop := ∀ n ∈ ts, n.path.length ≤ 1048576 ∧ n.data.length ≤ 1048576
def checkE (ts : List Nd) : Nat := if treeB ts = true then 0 else 60
theorem bad_node {ts : List Nd} {x : Nd} (hx : x ∈ ts) (h : nodeB ts x = false) : checkE ts = 60 := by
  unfold checkE treeB
  rw [if_neg]
  simp only [Bool.and_eq_true, not_and]
  intro ⟨_, h1⟩
  rw [List.all_eq_true] at h1
  rw [h1 x hx] at h
  cases h
theorem bad_chain {ts : List Nd} {k : Nat} (h : chainB (ts.take k) = false) : checkE ts = 60 := by
  unfold checkE treeB
  rw [if_neg]
  simp only [Bool.and_eq_true, not_and]
  intro _ h1
  have := chain_pre (a := ts.take k) (b := ts.drop k) (by rw [List.take_append_drop]; exact h1)
  rw [this] at h
  cases h
set_option maxRecDepth 100000 in
set_option maxHeartbeats 3200000 in
theorem rcheck_any (ao : Option Addr) (cap : Nat) (ts : List Nd) (w : World) (h : LayN w ao ts) (hs : Small ts) (hl : ts.length ≤ maxLen) :
    Calls Tryz.prog 28 #[.slice ao ts.length cap] w fun r w' => r = .returned (.int .i64 (checkE ts : Nat)) ∧ Below w.heap.size w w' := by
  obtain ⟨n, hn⟩ : ∃ n, ts.length = n := ⟨_, rfl⟩
  have HN := Lib.hid hn
  have HL := Lib.hid h
  have HSm := Lib.hid hs
  unfold maxLen at hl
  rw [hn] at hl ⊢
  have hnz : (n : Int) ≤ 9223372036854775807 := by omega
  by_cases h0 : n ≤ 1000
  · have h0z : ¬ (1000 : Int) < n := by omega
    have cD : ∀ W p, LayN W ao ts → Calls Tryz.prog 47 #[.slice ao n cap, txt p] W fun r w' => r = .returned (.bool (dirB ts p)) ∧ Below W.heap.size W w' := fun W p hW => by
      have := rdir_any ao cap ts p W hW (by unfold maxLen; omega)
      rw [hn] at this
      exact this
    have CD := Lib.hid cD
    clear h hn hl hs cD
    go_enter Tryz.func28, Tryz.ntmps28
    repeat (first | go_skip | go_guarded | go_step | go_upon)
    go_loopw [3] (fun s3 wr => ∃ k : Nat, s3 = .int .i64 k ∧ k ≤ n ∧ (∀ m ∈ ts.take k, nodeB ts m = true) ∧ chainB (ts.take k) = true ∧ Below w.heap.size w wr) (fun s3 _ => n - (Go.RowKit.intOf s3).toNat)
    case atStart => exact ⟨0, rfl, Nat.zero_le _, fun m hm => by simp at hm, rfl, Below.refl _ _⟩
    case round =>
      obtain ⟨k, rfl, hk, ha, hc, hb⟩ := hrel
      have HA := Lib.hid ha
      have HC := Lib.hid hc
      have HB := Lib.hid hb
      have hbs := hb.size
      have HLr := Lib.hid (HL.out.below hb)
      clear ha hc hb
      by_cases hlt : k < n
      · have hkz : (k : Int) < n := by omega
        obtain ⟨g, o, rfl, hg, hcell⟩ := HLr.out (by rw [HN.out]; omega)
        obtain ⟨x, hx⟩ : ∃ x, ts[k]? = some x := ⟨ts[k]'(by rw [HN.out]; exact hlt), List.getElem?_eq_getElem _⟩
        have hmem := List.mem_of_getElem? hx
        obtain ⟨hs1, hs2⟩ := HSm.out x hmem
        have HNd := Lib.hid (hcell k x hx)
        have HCe := Lib.hid hcell
        have c0 := HNd.out.p
        unfold txt at c0
        obtain ⟨X, hX⟩ : ∃ X : ByteArray, ⟨x.path.toArray⟩ = X := ⟨_, rfl⟩
        have hXd : X.data.toList = x.path := by rw [← hX]
        obtain ⟨D, hD⟩ : ∃ D : ByteArray, ⟨x.data.toArray⟩ = D := ⟨_, rfl⟩
        rw [hX] at c0
        have hXs : X.size ≤ 1048576 := by rw [Lib.size_eq, hXd]; exact hs1
        obtain ⟨kx, hkx⟩ : ∃ kx, x.kind = kx := ⟨_, rfl⟩
        obtain ⟨mx, hmx⟩ : ∃ mx, x.mode = mx := ⟨_, rfl⟩
        have cells : ∀ W, Below wr.heap.size wr W → W.cell? ⟨g, o + k * 4, none⟩ = some (.string X) ∧ W.cell? ⟨g, o + k * 4 + 1, none⟩ = some (.int .i64 kx) ∧ W.cell? ⟨g, o + k * 4 + 2, none⟩ = some (.string D) ∧ W.cell? ⟨g, o + k * 4 + 3, none⟩ = some (.int .i64 mx) := fun W hW => by
          have := HNd.out.below hg hW
          have p := this.p
          have d := this.d
          unfold txt at p d
          rw [hX] at p
          rw [hD] at d
          exact ⟨p, by rw [← hkx]; exact this.k, d, by rw [← hmx]; exact this.m⟩
        have c1 : ∀ W, Calls Tryz.prog 45 #[.string X] W fun r w' => r = .returned (.bool (NP.pathL x.path)) ∧ Below W.heap.size W w' := fun W => by
          have := R1.RQ.rpath_any X W hXs
          rw [hXd] at this
          exact this
        have c2 : ∀ W, Calls Tryz.prog 46 #[.agg #[.string X, .int .i64 kx, .string D, .int .i64 mx]] W fun r w' => r = .returned (.bool (rightB x)) ∧ Below W.heap.size W w' := fun W => by
          have := rright_any x W (by unfold maxLen; omega)
          unfold ndVal txt at this
          rw [hX, hD, hkx, hmx] at this
          exact this
        have c3 : ∀ W, Calls Tryz.prog 48 #[.string X] W fun r w' => r = .returned (txt (NP.parentL x.path)) ∧ Below W.heap.size W w' := fun W => by
          refine (R1.RT.rparent_any X W hXs).mono ?_
          rintro r w' ⟨t, rfl, ht, hb⟩
          rw [hXd] at ht
          exact ⟨by rw [← ht, txt_data], hb⟩
        obtain ⟨P, hP⟩ : ∃ P : ByteArray, ⟨(NP.parentL x.path).toArray⟩ = P := ⟨_, rfl⟩
        have c4 : ∀ W, LayN W (some ⟨g, o, none⟩) ts → Calls Tryz.prog 47 #[.slice (some ⟨g, o, none⟩) n cap, .string P] W fun r w' => r = .returned (.bool (dirB ts (NP.parentL x.path))) ∧ Below W.heap.size W w' := fun W hW => by
          have := CD.out W (NP.parentL x.path) hW
          unfold txt at this
          rw [hP] at this
          exact this
        unfold txt at c3
        rw [hP] at c3
        obtain ⟨b1, hb1⟩ : ∃ b, NP.pathL x.path = b := ⟨_, rfl⟩
        obtain ⟨b2, hb2⟩ : ∃ b, rightB x = b := ⟨_, rfl⟩
        obtain ⟨b3, hb3⟩ : ∃ b, dirB ts (NP.parentL x.path) = b := ⟨_, rfl⟩
        have HNB : Hid (nodeB ts x = (b1 && b2 && b3)) := Lib.hid (by unfold nodeB; rw [hb1, hb2, hb3])
        rw [hb1] at c1
        rw [hb2] at c2
        rw [hb3] at c4
        have C1 := Lib.hid c1
        have C2 := Lib.hid c2
        have C3 := Lib.hid c3
        have C4 := Lib.hid c4
        have CL := Lib.hid cells
        have HX := Lib.hid hx
        have HXd := Lib.hid hXd
        have HXm := Lib.hid hmem
        clear c1 c2 c3 c4 cells hX hXd hD hkx hmx hb1 hb2 hb3 hP hx hmem hs1 hs2 hcell
        cases b1 with
        | false =>
          have HF : Hid (checkE ts = 60) := Lib.hid (bad_node HXm.out (by rw [HNB.out]; rfl))
          repeat (first | (go_at_call 45; refine (C1.out _).mono ?_; rintro r w1 ⟨rfl, hb⟩; simp only []; have B1 := Lib.hid (Below.trans HB.out (hb.mono hbs)); clear hb) | go_skip | go_guarded | go_step | go_upon)
          go_ret
          exact ⟨by rw [HF.out]; rfl, B1.out⟩
        | true =>
          cases b2 with
          | false =>
            have HF : Hid (checkE ts = 60) := Lib.hid (bad_node HXm.out (by rw [HNB.out]; rfl))
            repeat (first | (go_at_call 45; refine (C1.out _).mono ?_; rintro r w1 ⟨rfl, hb⟩; simp only []; obtain ⟨e0, e1, e2, e3⟩ := CL.out w1 hb; have W1 := Lib.hid hb; clear hb) | (go_at_call 46; refine (C2.out _).mono ?_; rintro r w2 ⟨rfl, hb⟩; simp only []; obtain ⟨e4, e5, e6, e7⟩ := CL.out w2 (Below.trans W1.out (hb.mono W1.out.size)); have W2 := Lib.hid (Below.trans W1.out (hb.mono W1.out.size)); clear hb) | go_skip | go_guarded | go_step | go_upon)
            go_ret
            exact ⟨by rw [HF.out]; rfl, Below.trans HB.out (W2.out.mono hbs)⟩
          | true =>
            cases b3 with
            | false =>
              have HF : Hid (checkE ts = 60) := Lib.hid (bad_node HXm.out (by rw [HNB.out]; rfl))
              repeat (first | (go_at_call 45; refine (C1.out _).mono ?_; rintro r w1 ⟨rfl, hb⟩; simp only []; obtain ⟨e0, e1, e2, e3⟩ := CL.out w1 hb; have W1 := Lib.hid hb; clear hb) | (go_at_call 46; refine (C2.out _).mono ?_; rintro r w2 ⟨rfl, hb⟩; simp only []; obtain ⟨e4, e5, e6, e7⟩ := CL.out w2 (Below.trans W1.out (hb.mono W1.out.size)); have W2 := Lib.hid (Below.trans W1.out (hb.mono W1.out.size)); clear hb) | (go_at_call 48; refine (C3.out _).mono ?_; rintro r w3 ⟨rfl, hb⟩; simp only []; have W3 := Lib.hid (Below.trans W2.out (hb.mono W2.out.size)); clear hb) | (go_at_call 47; refine (C4.out _ (HLr.out.below W3.out)).mono ?_; rintro r w4 ⟨rfl, hb⟩; simp only []; obtain ⟨e8, e9, e10, e11⟩ := CL.out w4 (Below.trans W3.out (hb.mono W3.out.size)); have W4 := Lib.hid (Below.trans W3.out (hb.mono W3.out.size)); clear hb) | go_skip | go_guarded | go_step | go_upon)
              go_ret
              exact ⟨by rw [HF.out]; rfl, Below.trans HB.out (W4.out.mono hbs)⟩
            | true =>
              have HA2 : Hid (∀ m ∈ ts.take (k + 1), nodeB ts m = true) := Lib.hid (fun m hm => by
                rw [List.take_add_one, HX.out] at hm
                rcases List.mem_append.1 hm with hm | hm
                · exact HA.out m hm
                · simp at hm; rw [hm, HNB.out]; rfl)
              by_cases hk0 : k = 0
              · have hk0n : ¬ 0 < k := by omega
                have hk0d : decide (0 < k) = false := decide_eq_false hk0n
                have HC2 : Hid (chainB (ts.take (k + 1)) = true) := Lib.hid (by rw [List.take_add_one, HX.out, hk0]; rfl)
                clear hk0
                repeat (first | (go_at_call 45; refine (C1.out _).mono ?_; rintro r w1 ⟨rfl, hb⟩; simp only []; obtain ⟨e0, e1, e2, e3⟩ := CL.out w1 hb; have W1 := Lib.hid hb; clear hb) | (go_at_call 46; refine (C2.out _).mono ?_; rintro r w2 ⟨rfl, hb⟩; simp only []; obtain ⟨e4, e5, e6, e7⟩ := CL.out w2 (Below.trans W1.out (hb.mono W1.out.size)); have W2 := Lib.hid (Below.trans W1.out (hb.mono W1.out.size)); clear hb) | (go_at_call 48; refine (C3.out _).mono ?_; rintro r w3 ⟨rfl, hb⟩; simp only []; have W3 := Lib.hid (Below.trans W2.out (hb.mono W2.out.size)); clear hb) | (go_at_call 47; refine (C4.out _ (HLr.out.below W3.out)).mono ?_; rintro r w4 ⟨rfl, hb⟩; simp only []; obtain ⟨e8, e9, e10, e11⟩ := CL.out w4 (Below.trans W3.out (hb.mono W3.out.size)); have W4 := Lib.hid (Below.trans W3.out (hb.mono W3.out.size)); clear hb) | go_skip | go_guarded | go_step | go_upon)
                clear e0 e1 e2 e3 e4 e5 e6 e7 e8 e9 e10 e11
                with_reducible refine wp_region_quiet_below (by kernel_rfl) (by kernel_rfl) ?_
                repeat (go_big_quiet_step (fail))
                refine wpQuiet_nil ?_
                intro _ hw'
                obtain ⟨⟨dq, osq⟩, hw''⟩ := hw'
                subst hw''
                have W5 : Hid (Below wr.heap.size wr (Go.Sort.grow (redrawn w4 dq) osq)) := Lib.hid (Below.trans W4.out ((below_regrown w4 dq osq).mono W4.out.size))
                generalize Go.Sort.grow (redrawn w4 dq) osq = w5 at W5 ⊢
                repeat (first | go_skip | go_guarded | go_step | go_upon)
                exact ⟨⟨k + 1, by go_num, by omega, HA2.out, HC2.out, Below.trans HB.out (W5.out.mono hbs)⟩, by simp [Go.RowKit.intOf]; omega⟩
              · obtain ⟨j, hj⟩ : ∃ j, k = j + 1 := ⟨k - 1, by omega⟩
                have hjz : (k : Int) - 1 = j := by omega
                have hjn : (j : Int) < n := by omega
                have hk0n : 0 < k := by omega
                have hk0d : decide (0 < k) = true := decide_eq_true hk0n
                obtain ⟨y, hy⟩ : ∃ y, ts[j]? = some y := ⟨ts[j]'(by rw [HN.out]; omega), List.getElem?_eq_getElem _⟩
                obtain ⟨Y, hY⟩ : ∃ Y : ByteArray, ⟨y.path.toArray⟩ = Y := ⟨_, rfl⟩
                have hYd : Y.data.toList = y.path := by rw [← hY]
                have hYs : Y.size ≤ 1048576 := by rw [Lib.size_eq, hYd]; exact (HSm.out y (List.mem_of_getElem? hy)).1
                have CY : Hid (∀ W, Below wr.heap.size wr W → W.cell? ⟨g, o + j * 4, none⟩ = some (.string Y)) := Lib.hid (fun W hW => by
                  have := ((HCe.out j y hy).below hg hW).p
                  unfold txt at this
                  rw [hY] at this
                  exact this)
                obtain ⟨z, hz⟩ : ∃ z, NP.ordL y.path x.path = z := ⟨_, rfl⟩
                have c5 : ∀ W, Calls Tryz.prog 49 #[.string Y, .string X] W fun r w' => r = .returned (.int .i64 z) ∧ Below W.heap.size W w' := fun W => by
                  refine (R1.RO.rorder_any Y X W hYs hXs).mono ?_
                  rintro r w' ⟨rfl, hb⟩
                  rw [hYd, HXd.out, hz]
                  exact ⟨rfl, hb⟩
                have C5 := Lib.hid c5
                have HCh : Hid (chainB (ts.take (k + 1)) = decide (z < 0)) := Lib.hid (by
                  have hx2 := HX.out
                  rw [hj] at hx2 ⊢
                  obtain ⟨t1, t2⟩ := take_two hy hx2
                  have h1 := HC.out
                  rw [hj, t2] at h1
                  rw [t1, chain_snoc, h1, hz]
                  rfl)
                have hk64 : (k : Int) ≤ 1000 := by omega
                clear c5 hY hYd hYs hy hz hj hk0
                repeat (first | (go_at_call 45; refine (C1.out _).mono ?_; rintro r w1 ⟨rfl, hb⟩; simp only []; obtain ⟨e0, e1, e2, e3⟩ := CL.out w1 hb; have W1 := Lib.hid hb; clear hb) | (go_at_call 46; refine (C2.out _).mono ?_; rintro r w2 ⟨rfl, hb⟩; simp only []; obtain ⟨e4, e5, e6, e7⟩ := CL.out w2 (Below.trans W1.out (hb.mono W1.out.size)); have W2 := Lib.hid (Below.trans W1.out (hb.mono W1.out.size)); clear hb) | (go_at_call 48; refine (C3.out _).mono ?_; rintro r w3 ⟨rfl, hb⟩; simp only []; have W3 := Lib.hid (Below.trans W2.out (hb.mono W2.out.size)); clear hb) | (go_at_call 47; refine (C4.out _ (HLr.out.below W3.out)).mono ?_; rintro r w4 ⟨rfl, hb⟩; simp only []; obtain ⟨e8, e9, e10, e11⟩ := CL.out w4 (Below.trans W3.out (hb.mono W3.out.size)); have W4 := Lib.hid (Below.trans W3.out (hb.mono W3.out.size)); clear hb) | go_skip | go_guarded | go_step | go_upon)
                have y1 := CY.out w4 W4.out
                have f8 := cell_regrown e8
                have g1 := cell_regrown y1
                have D5 := Lib.hid (reg_of (w := w4) (fun W _ => C5.out W))
                clear e0 e1 e2 e3 e4 e5 e6 e7 e9 e10 e11
                with_reducible refine wp_region_quiet_below (by kernel_rfl) (by kernel_rfl) ?_
                repeat (go_big_quiet_step (first | (go_at_call 49; exact D5.out _ _)))
                refine wpQuiet_nil ?_
                intro _ hw'
                obtain ⟨⟨dq, osq⟩, hw''⟩ := hw'
                subst hw''
                have W5 : Hid (Below wr.heap.size wr (Go.Sort.grow (redrawn w4 dq) osq)) := Lib.hid (Below.trans W4.out ((below_regrown w4 dq osq).mono W4.out.size))
                clear f8 g1 e8 y1
                generalize Go.Sort.grow (redrawn w4 dq) osq = w5 at W5 ⊢
                by_cases hz0 : z < 0
                · have hz1 : ¬ 0 ≤ z := by omega
                  have HC2 : Hid (chainB (ts.take (k + 1)) = true) := Lib.hid (by rw [HCh.out, decide_eq_true hz0])
                  repeat (first | go_skip | go_guarded | go_step | go_upon)
                  exact ⟨⟨k + 1, by go_num, by omega, HA2.out, HC2.out, Below.trans HB.out (W5.out.mono hbs)⟩, by simp [Go.RowKit.intOf]; omega⟩
                · have hz1 : 0 ≤ z := by omega
                  have HF : Hid (checkE ts = 60) := Lib.hid (bad_chain (k := k + 1) (by rw [HCh.out, decide_eq_false hz0]))
                  repeat (first | go_skip | go_guarded | go_step | go_upon)
                  go_ret
                  exact ⟨by rw [HF.out]; rfl, Below.trans HB.out (W5.out.mono hbs)⟩
      · have hkz : ¬ (k : Int) < n := by omega
        have HF : Hid (checkE ts = 0) := Lib.hid (by
          have et : ts.take k = ts := List.take_of_length_le (by rw [HN.out]; omega)
          have h1 := HA.out
          have h2 := HC.out
          rw [et] at h1 h2
          unfold checkE treeB
          rw [HN.out, decide_eq_true h0, List.all_eq_true.2 h1, h2]
          rfl)
        clear hlt
        repeat (first | go_skip | go_guarded | go_step | go_upon)
        go_ret
        exact ⟨by rw [HF.out]; rfl, HB.out⟩
  · have h0z : (1000 : Int) < n := by omega
    have HB : Hid (checkE ts = 60) := Lib.hid (by unfold checkE treeB; rw [hn, decide_eq_false h0]; rfl)
    clear h hn hl hs h0
    go_enter Tryz.func28, Tryz.ntmps28
    repeat (first | go_skip | go_guarded | go_step | go_upon)
    go_ret
    exact ⟨by rw [HB.out]; rfl, Below.refl _ _⟩
end TR
end
section
open Go.RowKit Go.Lib
namespace TR
open OM TP TM
theorem checkE_zero (ts : List Nd) : ((checkE ts : Nat) : Int) = 0 ↔ treeB ts = true := by
  unfold checkE
  cases treeB ts <;> simp
end TR
end
end Go.Proofs.YtmpmmebmhffaeaaGreatDoor
