/- Texts of this seat, put one behind the other: what its statements share (part 5). -/
import Derived.Test.YtfkaackhikbbkaaGreatDoorMg1
import Derived.WalkKit
import Derived.WalkMore
import Derived.IntWalk
section
/- Layer 6: pieces of lists of nodes. -/
namespace Go.Proofs.YtfkaackhikbbkaaGreatDoor
open Go.RowKit Go.Lib
namespace TM
open OM TP

theorem add_zero_addr (a : Addr) : a.add 0 = a := by
  unfold Addr.add
  split <;> simp_all
/-- T is a type of lists of nodes. -/
structure NdSl (T : TypeId) : Prop where
  under : Tryz.prog.underlying T = some (.slice (Tryz.prog.elem T))
  size : ∀ W, (sizeOf (Tryz.prog.elem T)).run Tryz.prog W = .ok 4 W
theorem ndsl_node : NdSl 22 := ⟨by kernel_rfl, fun W => by rw [show Tryz.prog.elem 22 = 25 by kernel_rfl]; simp [go_sem]⟩
theorem ndsl_list : NdSl 77 := ⟨by kernel_rfl, fun W => by rw [show Tryz.prog.elem 77 = 25 by kernel_rfl]; simp [go_sem]⟩
theorem sl_to {T : TypeId} (hT : NdSl T) (ao : Option Addr) (n k cap : Nat) (z : Int) (hz : z = k) (h : k ≤ cap) (W : World) :
    (Instr.slice T (.slice ao n cap) none (some (.int .i64 z)) none).run Tryz.prog W = .ok (.slice ao k cap) W := by
  subst hz
  rw [run_slice_h W T ao n cap hT.under .i64 k (by omega) (by omega), hT.size]
  simp only [Result.andThen, sliced, Int.toNat_natCast, Nat.sub_zero, Nat.zero_mul]
  congr 2
  split
  · rfl
  · cases ao with
    | none => rfl
    | some a => simp [add_zero_addr]
theorem LayN.piece {W : World} {ao : Option Addr} {ts : List Nd} (h : LayN W ao ts) (i j : Nat) : LayN W (ao.map (·.add (i * 4))) ((ts.take j).drop i) := fun h0 => by
  rw [List.length_drop, List.length_take] at h0
  obtain ⟨g, o, rfl, hg, hc⟩ := h (by omega)
  refine ⟨g, o + i * 4, ?_, hg, fun k n hk => ?_⟩
  · simp [Addr.add]
  · rw [List.getElem?_drop, List.getElem?_take] at hk
    split at hk
    · have := hc _ n hk
      rw [show o + i * 4 + k * 4 = o + (i + k) * 4 by omega]
      exact this
    · cases hk
theorem LayN.take {W : World} {ao : Option Addr} {ts : List Nd} (h : LayN W ao ts) (j : Nat) : LayN W ao (ts.take j) := fun h0 => by
  rw [List.length_take] at h0
  obtain ⟨g, o, rfl, hg, hc⟩ := h (by omega)
  refine ⟨g, o, rfl, hg, fun k n hk => ?_⟩
  rw [List.getElem?_take] at hk
  split at hk
  · exact hc _ n hk
  · cases hk
theorem sl_lh {T : TypeId} (hT : NdSl T) (ao : Option Addr) (ts : List Nd) (n i j cap : Nat) (hij : i ≤ j) (hj : j ≤ cap) :
    ∃ ao' c', (∀ W, (Instr.slice T (.slice ao n cap) (some (.int .i64 (i : Nat))) (some (.int .i64 (j : Nat))) none).run Tryz.prog W = .ok (.slice ao' (j - i) c') W) ∧
      (∀ W, LayN W ao ts → LayN W ao' ((ts.take j).drop i)) ∧ j - i ≤ c' ∧ ((ao = none → cap = 0) → ao' = none → c' = 0) := by
  refine ⟨if cap = i then ao else ao.map (·.add (i * 4)), cap - i, fun W => ?_, fun W h => ?_, by omega, fun h0 h => ?_⟩
  · rw [run_slice_lh W T ao n cap hT.under .i64 .i64 i j (by omega) (by omega) (by omega), hT.size]
    simp only [Result.andThen, sliced, Int.toNat_natCast]
  · by_cases hc : cap = i
    · have : (ts.take j).drop i = [] := List.drop_eq_nil_of_le (by rw [List.length_take]; omega)
      rw [this]
      exact LayN.nil _ _
    · rw [if_neg hc]
      exact h.piece i j
  · by_cases hc : cap = i
    · omega
    · rw [if_neg hc] at h
      cases ao with
      | none => have := h0 rfl; omega
      | some a => cases h
theorem sl_from {T : TypeId} (hT : NdSl T) (ao : Option Addr) (ts : List Nd) (i cap : Nat) (hi : i ≤ ts.length) (hc : ts.length ≤ cap) :
    ∃ ao' c', (∀ W, (Instr.slice T (.slice ao ts.length cap) (some (.int .i64 (i : Nat))) none none).run Tryz.prog W = .ok (.slice ao' (ts.length - i) c') W) ∧
      (∀ W, LayN W ao ts → LayN W ao' (ts.drop i)) ∧ ts.length - i ≤ c' ∧ ((ao = none → cap = 0) → ao' = none → c' = 0) := by
  refine ⟨if cap = i then ao else ao.map (·.add (i * 4)), cap - i, fun W => ?_, fun W h => ?_, by omega, fun h0 h => ?_⟩
  · rw [run_slice_l W T ao ts.length cap hT.under .i64 i (by omega) (by omega), hT.size]
    simp only [Result.andThen, sliced, Int.toNat_natCast]
  · by_cases hc : cap = i
    · have : ts.drop i = [] := List.drop_eq_nil_of_le (by omega)
      rw [this]
      exact LayN.nil _ _
    · rw [if_neg hc]
      have := h.piece i ts.length
      rw [List.take_length] at this
      exact this
  · by_cases hc : cap = i
    · omega
    · rw [if_neg hc] at h
      cases ao with
      | none => have := h0 rfl; omega
      | some a => cases h
end TM
end Go.Proofs.YtfkaackhikbbkaaGreatDoor
end

section
/- Layer 6: the contracts of the program's within, goesOn, rightNode, hasNoPath. -/
namespace Go.Proofs.YtfkaackhikbbkaaGreatDoor
open Go.RowKit Go.Lib Go.BigFrame
namespace TG
open OM TP TM

theorem last_some {l : List Nd} (h : 0 < l.length) : ∃ y, l[l.length - 1]? = some y ∧ l.getLast? = some y := by
  refine ⟨l[l.length - 1], List.getElem?_eq_getElem _, ?_⟩
  rw [List.getLast?_eq_getElem?]
  exact List.getElem?_eq_getElem _
set_option maxRecDepth 100000 in
set_option maxHeartbeats 3200000 in
theorem goes_any (ao : Option Addr) (cap : Nat) (ts : List Nd) (p : List UInt8) (w : World) (he : NF.Env w) (h : LayN w ao ts) (hso : Sorted ts) (hs : SmallG ts) (hl : ts.length ≤ 1000) (hp : p.length ≤ 1048576) :
    Calls Tryz.prog 52 #[.slice ao ts.length cap, txt p] w fun r w' => r = .returned (.bool (goesB ts p)) ∧ Below w.heap.size w w' := by
  have cD : ∀ W, Below w.heap.size w W → Calls Tryz.prog 86 #[.slice ao ts.length cap, txt (NP.parentL p)] W fun r w' => r = .returned (.bool (dirB ts (NP.parentL p))) ∧ Below W.heap.size W w' := fun W hW => hasDir_any ao cap ts (NP.parentL p) W (h.below hW) hso hs hl (Nat.le_trans (parent_len p) hp)
  obtain ⟨S, hS, hSd⟩ := txt_of p
  obtain ⟨U, hU, _⟩ := txt_of (NP.parentL p)
  have cP : ∀ W, Below w.heap.size w W → Calls Tryz.prog 87 #[.string S] W fun e w' => e = .returned (.string U) ∧ Below W.heap.size W w' := fun W hW => by
    have := parent_txt S p W (he.below hW) hSd hp
    rw [hU] at this
    exact this
  obtain ⟨bd, hbd⟩ : ∃ b, dirB ts (NP.parentL p) = b := ⟨_, rfl⟩
  obtain ⟨n, hn⟩ : ∃ n, ts.length = n := ⟨_, rfl⟩
  rw [hn, hU, hbd] at cD
  rw [hn, hS]
  have CD := Lib.hid cD
  have CP := Lib.hid cP
  have HG : Hid (goesB ts p = ((match ts.getLast? with | none => true | some y => decide (NP.ordL y.path p < 0)) && bd)) := Lib.hid (by unfold goesB; rw [hbd]; rfl)
  have hnl : n ≤ 1000 := by omega
  by_cases h0 : 0 < n
  · have h0z : (0 : Int) < n := by omega
    have h0d : decide ((0 : Int) < n) = true := decide_eq_true h0z
    obtain ⟨y, hy, hgl⟩ := last_some (l := ts) (by omega)
    rw [hn] at hy
    obtain ⟨j, hj⟩ : ∃ j, n - 1 = j := ⟨_, rfl⟩
    have hjz : (n : Int) - 1 = (j : Int) := by omega
    have hjn : (j : Int) < n := by omega
    rw [hj] at hy
    obtain ⟨g, o, rfl, hg, hc⟩ := h (by omega)
    obtain ⟨Y, hY, hYd⟩ := txt_of y.path
    have c0 := (hc j y hy).p
    rw [hY] at c0
    obtain ⟨z, hz⟩ : ∃ z, NP.ordL y.path p = z := ⟨_, rfl⟩
    have CO : Hid (∀ W, Calls Tryz.prog 85 #[.string Y, .string S] W fun e w' => e = .returned (.int .i64 z) ∧ Below W.heap.size W w') := Lib.hid (fun W => by
      rw [← hz]
      exact order_txt Y S y.path p W hYd hSd (hs y (List.mem_of_getElem? hy)).1 hp)
    rw [hgl] at HG
    simp only [hz] at HG
    clear hn hS hSd hU hbd cD cP he h hso hs hl hp hc hy hgl hY hYd hz hj
    by_cases hz0 : z < 0
    · have hz1 : ¬ (0 : Int) ≤ z := by omega
      have HF : Hid (goesB ts p = bd) := Lib.hid (by rw [HG.out, decide_eq_true hz0]; rfl)
      clear hz0
      go_enter Tryz.func52, Tryz.ntmps52
      repeat (first
        | (go_at_call 85; refine (CO.out _).mono ?_; rintro r w1 ⟨rfl, hb⟩; simp only []; have B1 := Lib.hid hb; clear hb)
        | (go_at_call 87; refine (CP.out _ B1.out).mono ?_; rintro r w2 ⟨rfl, hb⟩; simp only []; have B2 := Lib.hid (Below.trans B1.out (hb.mono B1.out.size)); clear hb)
        | (go_at_call 86; refine (CD.out _ B2.out).mono ?_; rintro r w3 ⟨rfl, hb⟩; simp only []; have B3 := Lib.hid (Below.trans B2.out (hb.mono B2.out.size)); clear hb)
        | go_skip | go_guarded | go_step | go_upon)
      go_ret
      exact ⟨by rw [HF.out]; rfl, B3.out⟩
    · have hz1 : (0 : Int) ≤ z := by omega
      have HF : Hid (goesB ts p = false) := Lib.hid (by rw [HG.out, decide_eq_false hz0]; rfl)
      clear hz0
      go_enter Tryz.func52, Tryz.ntmps52
      repeat (first
        | (go_at_call 85; refine (CO.out _).mono ?_; rintro r w1 ⟨rfl, hb⟩; simp only []; have B1 := Lib.hid hb; clear hb)
        | go_skip | go_guarded | go_step | go_upon)
      go_ret
      exact ⟨by rw [HF.out]; rfl, B1.out⟩
  · have h0z : ¬ (0 : Int) < n := by omega
    have h0d : decide ((0 : Int) < n) = false := decide_eq_false h0z
    have hnil : ts = [] := List.length_eq_zero_iff.1 (by omega)
    have HF : Hid (goesB ts p = bd) := Lib.hid (by rw [HG.out, hnil]; rfl)
    clear hn hS hSd hU hbd cD cP he h hso hs hl hp hnil h0
    go_enter Tryz.func52, Tryz.ntmps52
    repeat (first
      | (go_at_call 87; refine (CP.out _ (Below.refl _ _)).mono ?_; rintro r w2 ⟨rfl, hb⟩; simp only []; have B2 := Lib.hid hb; clear hb)
      | (go_at_call 86; refine (CD.out _ B2.out).mono ?_; rintro r w3 ⟨rfl, hb⟩; simp only []; have B3 := Lib.hid (Below.trans B2.out (hb.mono B2.out.size)); clear hb)
      | go_skip | go_guarded | go_step | go_upon)
    go_ret
    exact ⟨by rw [HF.out]; rfl, B3.out⟩
end TG
end Go.Proofs.YtfkaackhikbbkaaGreatDoor
end

section
/- Layer 6: the contracts of the program's rightNode, Check. -/
namespace Go.Proofs.YtfkaackhikbbkaaGreatDoor
open Go.RowKit Go.Lib Go.BigFrame
namespace TG
open OM TP TM

theorem idx_contains (l : List UInt8) (c : UInt8) : decide (0 ≤ Lib.indexByte l c) = l.contains c := by
  rw [Bool.eq_iff_iff, decide_eq_true_eq, List.contains_iff_mem]
  have hge := Lib.indexByte_ge l c
  constructor
  · intro h
    obtain ⟨o, ho⟩ : ∃ o : Nat, Lib.indexByte l c = o := ⟨_, (Int.toNat_of_nonneg h).symm⟩
    exact List.mem_of_getElem? (Lib.indexByte_some ho).1
  · intro h
    rcases Int.lt_or_le (Lib.indexByte l c) 0 with e | e
    · obtain ⟨k, hk, e2⟩ := List.getElem_of_mem h
      exact absurd (by rw [← e2]; exact List.getElem?_eq_getElem hk) (Lib.indexByte_none (show Lib.indexByte l c = -1 by omega) k)
    · exact e
set_option maxRecDepth 100000 in
set_option maxHeartbeats 3200000 in
theorem right_any (n : Nd) (w : World) (hd : n.data.length ≤ 1048576) : Calls Tryz.prog 51 #[ndVal n] w fun r w' => r = .returned (.bool (rightB n)) ∧ Below w.heap.size w w' := by
  obtain ⟨p, k, d, m⟩ := n
  unfold ndVal txt
  simp only at hd ⊢
  obtain ⟨S, hS⟩ : ∃ S : ByteArray, ⟨d.toArray⟩ = S := ⟨_, rfl⟩
  have hSd : S.data.toList = d := by rw [← hS]
  obtain ⟨dl, hdl⟩ : ∃ dl, d.length = dl := ⟨_, rfl⟩
  have hSz : S.size = dl := by rw [Lib.size_eq, hSd]; exact hdl
  obtain ⟨bc, hbc⟩ : ∃ b, d.contains 0 = b := ⟨_, rfl⟩
  have CC : Hid (∀ W, Calls Tryz.prog 84 #[.string S, .string ⟨#[0]⟩] W fun e w' => e = .returned (.bool bc) ∧ w' = W) := Lib.hid (fun W => by
    have := Tryz.strings_Contains_one S 0 W
    rw [idx_contains, hSd, hbc] at this
    exact this)
  rw [hS]
  have B0 : Hid (Below w.heap.size w (w.alloc (.cells #[.string ⟨p.toArray⟩, .int .i64 k, .string S, .int .i64 m] 25))) := Lib.hid ((Below.refl _ _).alloc (Nat.le_refl _) _)
  by_cases h1 : k = 1
  · have k1 : (k == 1) = true := by simp [h1]
    have HR : Hid (rightB ⟨p, k, d, m⟩ = (decide (dl ≤ 65536) && decide (0 ≤ m) && decide (m ≤ 511))) := Lib.hid (by unfold rightB; simp only; rw [if_pos h1, hdl])
    clear hS hSd hdl hd h1 hbc
    by_cases a1 : dl ≤ 65536
    · have b1 : (dl : Int) ≤ 65536 := by omega
      have b1d : decide ((dl : Int) ≤ 65536) = true := decide_eq_true b1
      by_cases a2 : 0 ≤ m
      · have b2d : decide (0 ≤ m) = true := decide_eq_true a2
        by_cases a3 : m ≤ 511
        · have HB : Hid (rightB ⟨p, k, d, m⟩ = true) := Lib.hid (by rw [HR.out, decide_eq_true a1, decide_eq_true a2, decide_eq_true a3]; rfl)
          clear a1
          go_enter Tryz.func51, Tryz.ntmps51
          repeat (first | go_skip | go_guarded | go_step | go_upon)
          go_ret
          exact ⟨by rw [HB.out]; simp, B0.out⟩
        · have HB : Hid (rightB ⟨p, k, d, m⟩ = false) := Lib.hid (by rw [HR.out, decide_eq_false a3]; simp)
          clear a1
          go_enter Tryz.func51, Tryz.ntmps51
          repeat (first | go_skip | go_guarded | go_step | go_upon)
          go_ret
          exact ⟨by rw [HB.out]; simp, B0.out⟩
      · have b2d : decide (0 ≤ m) = false := decide_eq_false a2
        have HB : Hid (rightB ⟨p, k, d, m⟩ = false) := Lib.hid (by rw [HR.out, decide_eq_false a2]; simp)
        clear a1
        go_enter Tryz.func51, Tryz.ntmps51
        repeat (first | go_skip | go_guarded | go_step | go_upon)
        go_ret
        exact ⟨by rw [HB.out]; rfl, B0.out⟩
    · have b1 : ¬ (dl : Int) ≤ 65536 := by omega
      have b1d : decide ((dl : Int) ≤ 65536) = false := decide_eq_false b1
      have HB : Hid (rightB ⟨p, k, d, m⟩ = false) := Lib.hid (by rw [HR.out, decide_eq_false a1]; simp)
      clear a1
      go_enter Tryz.func51, Tryz.ntmps51
      repeat (first | go_skip | go_guarded | go_step | go_upon)
      go_ret
      exact ⟨by rw [HB.out]; rfl, B0.out⟩
  · have k1 : (k == 1) = false := by simp [h1]
    by_cases h2 : k = 2
    · have k2 : (k == 2) = true := by simp [h2]
      have HR : Hid (rightB ⟨p, k, d, m⟩ = (decide (d = []) && decide (m = 0))) := Lib.hid (by unfold rightB; simp only; rw [if_neg h1, if_pos h2])
      clear hdl hd h1 h2 hSz hbc
      by_cases a1 : d = []
      · have b1 : S.toList.isEmpty = true := by rw [Lib.toList_data, hSd, a1]; rfl
        obtain ⟨b2, hb2⟩ : ∃ b2, (m == 0) = b2 := ⟨_, rfl⟩
        have HB : Hid (rightB ⟨p, k, d, m⟩ = b2) := Lib.hid (by rw [HR.out, decide_eq_true a1, ← hb2, Bool.true_and, Bool.eq_iff_iff]; simp)
        clear a1 hS hSd
        go_enter Tryz.func51, Tryz.ntmps51
        repeat (first | go_skip | go_guarded | go_step | go_upon)
        go_ret
        exact ⟨by rw [HB.out]; rfl, B0.out⟩
      · have b1 : S.toList.isEmpty = false := by rw [Lib.toList_data, hSd]; simp [a1]
        have HB : Hid (rightB ⟨p, k, d, m⟩ = false) := Lib.hid (by rw [HR.out, decide_eq_false a1]; simp)
        clear a1 hS hSd
        go_enter Tryz.func51, Tryz.ntmps51
        repeat (first | go_skip | go_guarded | go_step | go_upon)
        go_ret
        exact ⟨by rw [HB.out]; rfl, B0.out⟩
    · have k2 : (k == 2) = false := by simp [h2]
      by_cases h3 : k = 3
      · have k3 : (k == 3) = true := by simp [h3]
        have HR : Hid (rightB ⟨p, k, d, m⟩ = (!bc && decide (1 ≤ dl) && decide (dl ≤ 400) && decide (m = 0))) := Lib.hid (by unfold rightB; simp only; rw [if_neg h1, if_neg h2, if_pos h3, hdl, hbc])
        have hemp : S.toList.isEmpty = decide (dl = 0) := by rw [Lib.toList_data, hSd, ← hdl, Bool.eq_iff_iff]; simp
        clear hS hSd hdl h1 h2 h3 hd hbc
        by_cases a1 : 1 ≤ dl
        · have b1 : S.toList.isEmpty = false := by rw [hemp, decide_eq_false (by omega)]
          by_cases a2 : dl ≤ 400
          · have b2 : (dl : Int) ≤ 400 := by omega
            have b2d : decide ((dl : Int) ≤ 400) = true := decide_eq_true b2
            cases bc with
            | true =>
              have HB : Hid (rightB ⟨p, k, d, m⟩ = false) := Lib.hid (by rw [HR.out]; simp)
              clear a1 a2 hemp HR
              go_enter Tryz.func51, Tryz.ntmps51
              repeat (first | (go_at_call 84; refine (CC.out _).mono ?_; rintro r w1 ⟨rfl, rfl⟩; simp only []) | go_skip | go_guarded | go_step | go_upon)
              go_ret
              exact ⟨by rw [HB.out]; rfl, B0.out⟩
            | false =>
              obtain ⟨b3, hb3⟩ : ∃ b3, (m == 0) = b3 := ⟨_, rfl⟩
              have HB : Hid (rightB ⟨p, k, d, m⟩ = b3) := Lib.hid (by rw [HR.out, decide_eq_true a1, decide_eq_true a2, ← hb3, Bool.eq_iff_iff]; simp)
              clear a1 a2 hemp HR
              go_enter Tryz.func51, Tryz.ntmps51
              repeat (first | (go_at_call 84; refine (CC.out _).mono ?_; rintro r w1 ⟨rfl, rfl⟩; simp only []) | go_skip | go_guarded | go_step | go_upon)
              go_ret
              exact ⟨by rw [HB.out]; rfl, B0.out⟩
          · have b2 : ¬ (dl : Int) ≤ 400 := by omega
            have b2d : decide ((dl : Int) ≤ 400) = false := decide_eq_false b2
            have HB : Hid (rightB ⟨p, k, d, m⟩ = false) := Lib.hid (by rw [HR.out, decide_eq_false a2]; simp)
            clear a1 a2 hemp HR
            go_enter Tryz.func51, Tryz.ntmps51
            repeat (first | go_skip | go_guarded | go_step | go_upon)
            go_ret
            exact ⟨by rw [HB.out]; rfl, B0.out⟩
        · have b1 : S.toList.isEmpty = true := by rw [hemp, decide_eq_true (by omega)]
          have HB : Hid (rightB ⟨p, k, d, m⟩ = false) := Lib.hid (by rw [HR.out, decide_eq_false a1]; simp)
          clear a1 hemp HR
          go_enter Tryz.func51, Tryz.ntmps51
          repeat (first | go_skip | go_guarded | go_step | go_upon)
          go_ret
          exact ⟨by rw [HB.out]; rfl, B0.out⟩
      · have k3 : (k == 3) = false := by simp [h3]
        have HB : Hid (rightB ⟨p, k, d, m⟩ = false) := Lib.hid (by unfold rightB; simp only; rw [if_neg h1, if_neg h2, if_neg h3])
        clear hS hSd hdl hd h1 h2 h3 hbc
        go_enter Tryz.func51, Tryz.ntmps51
        repeat (first | go_skip | go_guarded | go_step | go_upon)
        go_ret
        exact ⟨by rw [HB.out]; rfl, B0.out⟩
end TG
end Go.Proofs.YtfkaackhikbbkaaGreatDoor
end

section
/- Layer 6: the contract of the program's Check. -/
namespace Go.Proofs.YtfkaackhikbbkaaGreatDoor
open Go.RowKit Go.Lib Go.BigFrame
namespace TG
open OM TP TM

def checkG (ts : List Nd) : Nat := if treeB ts = true then 0 else 60
theorem check_yes {ts : List Nd} (h : treeB ts = true) : checkG ts = 0 := if_pos h
theorem check_no {ts : List Nd} (h : treeB ts = false) : checkG ts = 60 := if_neg (by rw [h]; simp)
theorem box4 (w : World) (a b c d : Value) (t : TypeId) :
    (w.alloc (.cells #[a, b, c, d] t)).cell? ⟨w.heap.size, 0, none⟩ = some a ∧ (w.alloc (.cells #[a, b, c, d] t)).cell? ⟨w.heap.size, 1, none⟩ = some b ∧ (w.alloc (.cells #[a, b, c, d] t)).cell? ⟨w.heap.size, 2, none⟩ = some c ∧ (w.alloc (.cells #[a, b, c, d] t)).cell? ⟨w.heap.size, 3, none⟩ = some d := by
  have h := heap_alloc_new w (.cells #[a, b, c, d] t)
  exact ⟨by rw [cell_of_row _ _ 0 _ _ _ h]; rfl, by rw [cell_of_row _ _ 1 _ _ _ h]; rfl, by rw [cell_of_row _ _ 2 _ _ _ h]; rfl, by rw [cell_of_row _ _ 3 _ _ _ h]; rfl⟩
set_option maxRecDepth 100000 in
set_option maxHeartbeats 6400000 in
theorem check_any (ao : Option Addr) (cap : Nat) (ts : List Nd) (w : World) (he : NF.Env w) (h : LayN w ao ts) (hs : SmallG ts) (hl : ts.length ≤ maxLen) (hcap : ts.length ≤ cap) :
    Calls Tryz.prog 25 #[.slice ao ts.length cap] w fun r w' => r = .returned (.int .i64 (checkG ts : Nat)) ∧ Below w.heap.size w w' := by
  obtain ⟨n, hn⟩ : ∃ n, ts.length = n := ⟨_, rfl⟩
  have HN := Lib.hid hn
  have HL := Lib.hid h
  have HSm := Lib.hid hs
  have HE := Lib.hid he
  unfold maxLen at hl
  rw [hn] at hl hcap ⊢
  have hnz : (n : Int) ≤ 9223372036854775807 := by omega
  by_cases h0 : n ≤ 1000
  · have h0z : ¬ (1000 : Int) < n := by omega
    clear h hn hl hs he
    go_enter Tryz.func25, Tryz.ntmps25
    repeat (first | go_skip | go_guarded | go_step | go_upon)
    go_loopw [10] (fun s10 wr => ∃ k : Nat, s10 = .int .i64 k ∧ k ≤ n ∧ treeB (ts.take k) = true ∧ Below w.heap.size w wr) (fun s10 _ => n - (Go.RowKit.intOf s10).toNat)
    case atStart => exact ⟨0, rfl, Nat.zero_le _, rfl, Below.refl _ _⟩
    case round =>
      obtain ⟨k, rfl, hk, ht, hb⟩ := hrel
      have HT := Lib.hid ht
      have HB := Lib.hid hb
      have hbs := hb.size
      have HLr := Lib.hid (HL.out.below hb)
      have HEr := Lib.hid (HE.out.below hb)
      clear ht hb
      by_cases hlt : k < n
      · have hkz : (k : Int) < n := by omega
        obtain ⟨g, o, rfl, hg, hcell⟩ := HLr.out (by rw [HN.out]; omega)
        obtain ⟨x, hx⟩ : ∃ x, ts[k]? = some x := ⟨ts[k]'(by rw [HN.out]; exact hlt), List.getElem?_eq_getElem _⟩
        have hmem := List.mem_of_getElem? hx
        obtain ⟨hs1, hs2⟩ := HSm.out x hmem
        obtain ⟨c0, c1, c2, c3⟩ := hcell k x hx
        obtain ⟨X, hX, hXd⟩ := txt_of x.path
        obtain ⟨D, hD, _⟩ := txt_of x.data
        obtain ⟨kx, hkx⟩ : ∃ kx, x.kind = kx := ⟨_, rfl⟩
        obtain ⟨mx, hmx⟩ : ∃ mx, x.mode = mx := ⟨_, rfl⟩
        rw [hX] at c0
        rw [hkx] at c1
        rw [hD] at c2
        rw [hmx] at c3
        obtain ⟨wa, hwa⟩ : ∃ wa, wr.alloc (.cells #[.string X, .int .i64 kx, .string D, .int .i64 mx] 25) = wa := ⟨_, rfl⟩
        have hba : Below wr.heap.size wr wa := by rw [← hwa]; exact (Below.refl _ _).alloc (Nat.le_refl _) _
        obtain ⟨a0, a1, a2, a3⟩ := box4 wr (.string X) (.int .i64 kx) (.string D) (.int .i64 mx) 25
        rw [hwa] at a0 a1 a2 a3
        have HBa := Lib.hid (Below.trans HB.out (hba.mono hbs))
        have HEa := Lib.hid (HEr.out.below hba)
        have HLa := Lib.hid (HLr.out.below hba)
        obtain ⟨b1, hb1⟩ : ∃ b, NP.pathL x.path = b := ⟨_, rfl⟩
        obtain ⟨b2, hb2⟩ : ∃ b, rightB x = b := ⟨_, rfl⟩
        obtain ⟨b3, hb3⟩ : ∃ b, goesB (ts.take k) x.path = b := ⟨_, rfl⟩
        have HStep : Hid (treeB (ts.take (k + 1)) = (b1 && b2 && b3)) := Lib.hid (by rw [tree_step hx HT.out (by rw [HN.out]; exact h0), hb1, hb2, hb3])
        have D1 := Lib.hid (reg_g (w := wa) (f := 50) (args := #[.string X]) (v := .bool b1) (fun W hW => by
          have := path_txt X x.path W (HEa.out.below hW) hXd hs1
          rw [hb1] at this
          exact this))
        have D2 := Lib.hid (reg_g (w := wa) (f := 51) (args := #[.agg #[.string X, .int .i64 kx, .string D, .int .i64 mx]]) (v := .bool b2) (fun W hW => by
          have := right_any x W hs2
          unfold ndVal at this
          rw [hX, hD, hkx, hmx, hb2] at this
          exact this))
        have D3 := Lib.hid (reg_g (w := wa) (f := 52) (args := #[.slice (some ⟨g, o, none⟩) k cap, .string X]) (v := .bool b3) (fun W hW => by
          have hkl : (ts.take k).length = k := by rw [List.length_take, HN.out]; omega
          have := goes_any (some ⟨g, o, none⟩) cap (ts.take k) x.path W (HEa.out.below hW) ((HLa.out.below hW).take k) ((tree_iff _).1 HT.out).sorted (fun m hm => HSm.out m (List.mem_of_mem_take hm)) (by rw [hkl]; omega) hs1
          rw [hkl, hX, hb3] at this
          exact this))
        have hsl := sl_to ndsl_node (some ⟨g, o, none⟩) n k cap k rfl (by omega)
        have fa0 := cell_regrown a0
        have fa1 := cell_regrown a1
        have fa2 := cell_regrown a2
        have fa3 := cell_regrown a3
        clear hcell hX hXd hD hkx hmx hb1 hb2 hb3 hx hmem hs1 hs2 hlt
        repeat (first | go_skip | go_guarded | go_step | go_upon)
        cases b1 with
        | false =>
          have HF : Hid (checkG ts = 60) := Lib.hid (check_no (tree_stop (k := k + 1) (by rw [HStep.out]; rfl)))
          with_reducible refine wp_region_quiet_below (by kernel_rfl) (by kernel_rfl) ?_
          repeat (go_big_quiet_step (first | (go_at_call 50; exact D1.out _ _) | (go_at_call 51; exact D2.out _ _) | (go_at_call 52; exact D3.out _ _)))
          refine wpQuiet_nil ?_
          intro _ hw'
          obtain ⟨⟨dq, osq⟩, hw''⟩ := hw'
          subst hw''
          have W5 : Hid (Below wa.heap.size wa (Go.Sort.grow (redrawn wa dq) osq)) := Lib.hid (below_regrown wa dq osq)
          clear fa0 fa1 fa2 fa3 a0 a1 a2 a3 hwa
          generalize Go.Sort.grow (redrawn wa dq) osq = w5 at W5 ⊢
          repeat (first | go_skip | go_guarded | go_step | go_upon)
          go_ret
          exact ⟨by rw [HF.out]; rfl, Below.trans HBa.out (W5.out.mono HBa.out.size)⟩
        | true =>
          cases b2 with
          | false =>
            have HF : Hid (checkG ts = 60) := Lib.hid (check_no (tree_stop (k := k + 1) (by rw [HStep.out]; rfl)))
            with_reducible refine wp_region_quiet_below (by kernel_rfl) (by kernel_rfl) ?_
            repeat (go_big_quiet_step (first | (go_at_call 50; exact D1.out _ _) | (go_at_call 51; exact D2.out _ _) | (go_at_call 52; exact D3.out _ _)))
            refine wpQuiet_nil ?_
            intro _ hw'
            obtain ⟨⟨dq, osq⟩, hw''⟩ := hw'
            subst hw''
            have W5 : Hid (Below wa.heap.size wa (Go.Sort.grow (redrawn wa dq) osq)) := Lib.hid (below_regrown wa dq osq)
            clear fa0 fa1 fa2 fa3 a0 a1 a2 a3 hwa
            generalize Go.Sort.grow (redrawn wa dq) osq = w5 at W5 ⊢
            repeat (first | go_skip | go_guarded | go_step | go_upon)
            go_ret
            exact ⟨by rw [HF.out]; rfl, Below.trans HBa.out (W5.out.mono HBa.out.size)⟩
          | true =>
            cases b3 with
            | false =>
              have HF : Hid (checkG ts = 60) := Lib.hid (check_no (tree_stop (k := k + 1) (by rw [HStep.out]; rfl)))
              with_reducible refine wp_region_quiet_below (by kernel_rfl) (by kernel_rfl) ?_
              repeat (go_big_quiet_step (first | (go_at_call 50; exact D1.out _ _) | (go_at_call 51; exact D2.out _ _) | (go_at_call 52; exact D3.out _ _)))
              refine wpQuiet_nil ?_
              intro _ hw'
              obtain ⟨⟨dq, osq⟩, hw''⟩ := hw'
              subst hw''
              have W5 : Hid (Below wa.heap.size wa (Go.Sort.grow (redrawn wa dq) osq)) := Lib.hid (below_regrown wa dq osq)
              clear fa0 fa1 fa2 fa3 a0 a1 a2 a3 hwa
              generalize Go.Sort.grow (redrawn wa dq) osq = w5 at W5 ⊢
              repeat (first | go_skip | go_guarded | go_step | go_upon)
              go_ret
              exact ⟨by rw [HF.out]; rfl, Below.trans HBa.out (W5.out.mono HBa.out.size)⟩
            | true =>
              with_reducible refine wp_region_quiet_below (by kernel_rfl) (by kernel_rfl) ?_
              repeat (go_big_quiet_step (first | (go_at_call 50; exact D1.out _ _) | (go_at_call 51; exact D2.out _ _) | (go_at_call 52; exact D3.out _ _)))
              refine wpQuiet_nil ?_
              intro _ hw'
              obtain ⟨⟨dq, osq⟩, hw''⟩ := hw'
              subst hw''
              have W5 : Hid (Below wa.heap.size wa (Go.Sort.grow (redrawn wa dq) osq)) := Lib.hid (below_regrown wa dq osq)
              clear fa0 fa1 fa2 fa3 a0 a1 a2 a3 hwa
              generalize Go.Sort.grow (redrawn wa dq) osq = w5 at W5 ⊢
              repeat (first | go_skip | go_guarded | go_step | go_upon)
              exact ⟨⟨k + 1, by go_num, by omega, HStep.out, Below.trans HBa.out (W5.out.mono HBa.out.size)⟩, by simp [Go.RowKit.intOf]; omega⟩
      · have hkz : ¬ (k : Int) < n := by omega
        have HF : Hid (checkG ts = 0) := Lib.hid (check_yes (by
          have := HT.out
          rw [List.take_of_length_le (by rw [HN.out]; omega)] at this
          exact this))
        clear hlt
        repeat (first | go_skip | go_guarded | go_step | go_upon)
        go_ret
        exact ⟨by rw [HF.out]; rfl, HB.out⟩
  · have h0z : (1000 : Int) < n := by omega
    have HB : Hid (checkG ts = 60) := Lib.hid (check_no (by unfold treeB; rw [hn, decide_eq_false h0]; rfl))
    clear h hn hl hs h0 he
    go_enter Tryz.func25, Tryz.ntmps25
    repeat (first | go_skip | go_guarded | go_step | go_upon)
    go_ret
    exact ⟨by rw [HB.out]; rfl, Below.refl _ _⟩
end TG
end Go.Proofs.YtfkaackhikbbkaaGreatDoor
end
