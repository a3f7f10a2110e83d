/- Texts of this seat, put one behind the other: what all of its statements on a disk share (part 2). -/
import Derived.Test.YtiggdojppfblkaaGreatDoorMg1
import Derived.WalkKit
import Derived.WalkMore
import Derived.IntWalk
import Derived.Laws.AppendOwn
import Derived.Laws.OwnMore
import Derived.Laws.AppendOwnNone
import Derived.Laws.Strings3
import Derived.Below
import Derived.RowKit
import Derived.Test.YtiggdojppfblkaaGreatDoorChecked
import Derived.Lib.Hide
import Derived.OwnWalk
import Derived.Laws.BitsAllLaws
import Derived.Lib.IndexBytes
import Derived.StillTail
import Derived.Deep.RegionHeld3
import Derived.Laws.ResultCell
import Derived.BigRegion
import Derived.BigQuiet
import Derived.Deep.RegionWith
import Derived.Lib.QuietBelow
import Derived.Test.YtiggdojppfblkaaGreatDoorRows
import Derived.ProofKit
import Derived.OpenShut
import Derived.PinnedBridge
import Derived.Lay
import Derived.MakeChecks
import Derived.Lib.LaidU8T
import Derived.Shelf.Vars
import Derived.Deep.DeepHandedRow
import Derived.Carry
import Derived.Deep.Slices
import Derived.Deep.SlicePairs
import Derived.Laws.StructEq
import Derived.Shelf.Strings.SlTrimAscii
import Derived.Lib.MinMax
import Derived.Lib.AppendZeros
import Derived.Lib.SliceRun
import Derived.Shelf.Strings.BuilderK
import Derived.Laws.IdiomStrings
import Derived.Lib.UnsafeStr
section
/- Layer 6: the contracts of the program's within, goesOn, rightNode, hasNoPath. -/
namespace Go.Proofs.YtiggdojppfblkaaGreatDoor
open Go.RowKit Go.Lib Go.BigFrame
namespace TG
open OM TP TM

theorem last_some {l : List Nd} (h : 0 < l.length) : ∃ y, l[l.length - 1]? = some y ∧ l.getLast? = some y := by
  refine ⟨l[l.length - 1], List.getElem?_eq_getElem _, ?_⟩
  rw [List.getLast?_eq_getElem?]
  exact List.getElem?_eq_getElem _
set_option maxRecDepth 100000 in
set_option maxHeartbeats 3200000 in
theorem goes_any (ao : Option Addr) (cap : Nat) (ts : List Nd) (p : List UInt8) (w : World) (he : NF.Env w) (h : LayN w ao ts) (hso : Sorted ts) (hs : SmallG ts) (hl : ts.length ≤ 1000) (hp : p.length ≤ 1048576) :
    Calls Tryz.prog 52 #[.slice ao ts.length cap, txt p] w fun r w' => r = .returned (.bool (goesB ts p)) ∧ Below w.heap.size w w' := by
  have cD : ∀ W, Below w.heap.size w W → Calls Tryz.prog 86 #[.slice ao ts.length cap, txt (NP.parentL p)] W fun r w' => r = .returned (.bool (dirB ts (NP.parentL p))) ∧ Below W.heap.size W w' := fun W hW => hasDir_any ao cap ts (NP.parentL p) W (h.below hW) hso hs hl (Nat.le_trans (parent_len p) hp)
  obtain ⟨S, hS, hSd⟩ := txt_of p
  obtain ⟨U, hU, _⟩ := txt_of (NP.parentL p)
  have cP : ∀ W, Below w.heap.size w W → Calls Tryz.prog 87 #[.string S] W fun e w' => e = .returned (.string U) ∧ Below W.heap.size W w' := fun W hW => by
    have := parent_txt S p W (he.below hW) hSd hp
    rw [hU] at this
    exact this
  obtain ⟨bd, hbd⟩ : ∃ b, dirB ts (NP.parentL p) = b := ⟨_, rfl⟩
  obtain ⟨n, hn⟩ : ∃ n, ts.length = n := ⟨_, rfl⟩
  rw [hn, hU, hbd] at cD
  rw [hn, hS]
  have CD := Lib.hid cD
  have CP := Lib.hid cP
  have HG : Hid (goesB ts p = ((match ts.getLast? with | none => true | some y => decide (NP.ordL y.path p < 0)) && bd)) := Lib.hid (by unfold goesB; rw [hbd]; rfl)
  have hnl : n ≤ 1000 := by omega
  by_cases h0 : 0 < n
  · have h0z : (0 : Int) < n := by omega
    have h0d : decide ((0 : Int) < n) = true := decide_eq_true h0z
    obtain ⟨y, hy, hgl⟩ := last_some (l := ts) (by omega)
    rw [hn] at hy
    obtain ⟨j, hj⟩ : ∃ j, n - 1 = j := ⟨_, rfl⟩
    have hjz : (n : Int) - 1 = (j : Int) := by omega
    have hjn : (j : Int) < n := by omega
    rw [hj] at hy
    obtain ⟨g, o, rfl, hg, hc⟩ := h (by omega)
    obtain ⟨Y, hY, hYd⟩ := txt_of y.path
    have c0 := (hc j y hy).p
    rw [hY] at c0
    obtain ⟨z, hz⟩ : ∃ z, NP.ordL y.path p = z := ⟨_, rfl⟩
    have CO : Hid (∀ W, Calls Tryz.prog 85 #[.string Y, .string S] W fun e w' => e = .returned (.int .i64 z) ∧ Below W.heap.size W w') := Lib.hid (fun W => by
      rw [← hz]
      exact order_txt Y S y.path p W hYd hSd (hs y (List.mem_of_getElem? hy)).1 hp)
    rw [hgl] at HG
    simp only [hz] at HG
    clear hn hS hSd hU hbd cD cP he h hso hs hl hp hc hy hgl hY hYd hz hj
    by_cases hz0 : z < 0
    · have hz1 : ¬ (0 : Int) ≤ z := by omega
      have HF : Hid (goesB ts p = bd) := Lib.hid (by rw [HG.out, decide_eq_true hz0]; rfl)
      clear hz0
      go_enter Tryz.func52, Tryz.ntmps52
      repeat (first
        | (go_at_call 85; refine (CO.out _).mono ?_; rintro r w1 ⟨rfl, hb⟩; simp only []; have B1 := Lib.hid hb; clear hb)
        | (go_at_call 87; refine (CP.out _ B1.out).mono ?_; rintro r w2 ⟨rfl, hb⟩; simp only []; have B2 := Lib.hid (Below.trans B1.out (hb.mono B1.out.size)); clear hb)
        | (go_at_call 86; refine (CD.out _ B2.out).mono ?_; rintro r w3 ⟨rfl, hb⟩; simp only []; have B3 := Lib.hid (Below.trans B2.out (hb.mono B2.out.size)); clear hb)
        | go_skip | go_guarded | go_step | go_upon)
      go_ret
      exact ⟨by rw [HF.out]; rfl, B3.out⟩
    · have hz1 : (0 : Int) ≤ z := by omega
      have HF : Hid (goesB ts p = false) := Lib.hid (by rw [HG.out, decide_eq_false hz0]; rfl)
      clear hz0
      go_enter Tryz.func52, Tryz.ntmps52
      repeat (first
        | (go_at_call 85; refine (CO.out _).mono ?_; rintro r w1 ⟨rfl, hb⟩; simp only []; have B1 := Lib.hid hb; clear hb)
        | go_skip | go_guarded | go_step | go_upon)
      go_ret
      exact ⟨by rw [HF.out]; rfl, B1.out⟩
  · have h0z : ¬ (0 : Int) < n := by omega
    have h0d : decide ((0 : Int) < n) = false := decide_eq_false h0z
    have hnil : ts = [] := List.length_eq_zero_iff.1 (by omega)
    have HF : Hid (goesB ts p = bd) := Lib.hid (by rw [HG.out, hnil]; rfl)
    clear hn hS hSd hU hbd cD cP he h hso hs hl hp hnil h0
    go_enter Tryz.func52, Tryz.ntmps52
    repeat (first
      | (go_at_call 87; refine (CP.out _ (Below.refl _ _)).mono ?_; rintro r w2 ⟨rfl, hb⟩; simp only []; have B2 := Lib.hid hb; clear hb)
      | (go_at_call 86; refine (CD.out _ B2.out).mono ?_; rintro r w3 ⟨rfl, hb⟩; simp only []; have B3 := Lib.hid (Below.trans B2.out (hb.mono B2.out.size)); clear hb)
      | go_skip | go_guarded | go_step | go_upon)
    go_ret
    exact ⟨by rw [HF.out]; rfl, B3.out⟩
end TG
end Go.Proofs.YtiggdojppfblkaaGreatDoor
end

section
/- Layer 6: pieces of lists of nodes. -/
namespace Go.Proofs.YtiggdojppfblkaaGreatDoor
open Go.RowKit Go.Lib
namespace TM
open OM TP

theorem add_zero_addr (a : Addr) : a.add 0 = a := by
  unfold Addr.add
  split <;> simp_all
/-- T is a type of lists of nodes. -/
structure NdSl (T : TypeId) : Prop where
  under : Tryz.prog.underlying T = some (.slice (Tryz.prog.elem T))
  size : ∀ W, (sizeOf (Tryz.prog.elem T)).run Tryz.prog W = .ok 4 W
theorem ndsl_node : NdSl 22 := ⟨by kernel_rfl, fun W => by rw [show Tryz.prog.elem 22 = 25 by kernel_rfl]; simp [go_sem]⟩
theorem ndsl_list : NdSl 77 := ⟨by kernel_rfl, fun W => by rw [show Tryz.prog.elem 77 = 25 by kernel_rfl]; simp [go_sem]⟩
theorem sl_to {T : TypeId} (hT : NdSl T) (ao : Option Addr) (n k cap : Nat) (z : Int) (hz : z = k) (h : k ≤ cap) (W : World) :
    (Instr.slice T (.slice ao n cap) none (some (.int .i64 z)) none).run Tryz.prog W = .ok (.slice ao k cap) W := by
  subst hz
  rw [run_slice_h W T ao n cap hT.under .i64 k (by omega) (by omega), hT.size]
  simp only [Result.andThen, sliced, Int.toNat_natCast, Nat.sub_zero, Nat.zero_mul]
  congr 2
  split
  · rfl
  · cases ao with
    | none => rfl
    | some a => simp [add_zero_addr]
theorem LayN.piece {W : World} {ao : Option Addr} {ts : List Nd} (h : LayN W ao ts) (i j : Nat) : LayN W (ao.map (·.add (i * 4))) ((ts.take j).drop i) := fun h0 => by
  rw [List.length_drop, List.length_take] at h0
  obtain ⟨g, o, rfl, hg, hc⟩ := h (by omega)
  refine ⟨g, o + i * 4, ?_, hg, fun k n hk => ?_⟩
  · simp [Addr.add]
  · rw [List.getElem?_drop, List.getElem?_take] at hk
    split at hk
    · have := hc _ n hk
      rw [show o + i * 4 + k * 4 = o + (i + k) * 4 by omega]
      exact this
    · cases hk
theorem LayN.take {W : World} {ao : Option Addr} {ts : List Nd} (h : LayN W ao ts) (j : Nat) : LayN W ao (ts.take j) := fun h0 => by
  rw [List.length_take] at h0
  obtain ⟨g, o, rfl, hg, hc⟩ := h (by omega)
  refine ⟨g, o, rfl, hg, fun k n hk => ?_⟩
  rw [List.getElem?_take] at hk
  split at hk
  · exact hc _ n hk
  · cases hk
theorem sl_lh {T : TypeId} (hT : NdSl T) (ao : Option Addr) (ts : List Nd) (n i j cap : Nat) (hij : i ≤ j) (hj : j ≤ cap) :
    ∃ ao' c', (∀ W, (Instr.slice T (.slice ao n cap) (some (.int .i64 (i : Nat))) (some (.int .i64 (j : Nat))) none).run Tryz.prog W = .ok (.slice ao' (j - i) c') W) ∧
      (∀ W, LayN W ao ts → LayN W ao' ((ts.take j).drop i)) ∧ j - i ≤ c' ∧ ((ao = none → cap = 0) → ao' = none → c' = 0) := by
  refine ⟨if cap = i then ao else ao.map (·.add (i * 4)), cap - i, fun W => ?_, fun W h => ?_, by omega, fun h0 h => ?_⟩
  · rw [run_slice_lh W T ao n cap hT.under .i64 .i64 i j (by omega) (by omega) (by omega), hT.size]
    simp only [Result.andThen, sliced, Int.toNat_natCast]
  · by_cases hc : cap = i
    · have : (ts.take j).drop i = [] := List.drop_eq_nil_of_le (by rw [List.length_take]; omega)
      rw [this]
      exact LayN.nil _ _
    · rw [if_neg hc]
      exact h.piece i j
  · by_cases hc : cap = i
    · omega
    · rw [if_neg hc] at h
      cases ao with
      | none => have := h0 rfl; omega
      | some a => cases h
theorem sl_from {T : TypeId} (hT : NdSl T) (ao : Option Addr) (ts : List Nd) (i cap : Nat) (hi : i ≤ ts.length) (hc : ts.length ≤ cap) :
    ∃ ao' c', (∀ W, (Instr.slice T (.slice ao ts.length cap) (some (.int .i64 (i : Nat))) none none).run Tryz.prog W = .ok (.slice ao' (ts.length - i) c') W) ∧
      (∀ W, LayN W ao ts → LayN W ao' (ts.drop i)) ∧ ts.length - i ≤ c' ∧ ((ao = none → cap = 0) → ao' = none → c' = 0) := by
  refine ⟨if cap = i then ao else ao.map (·.add (i * 4)), cap - i, fun W => ?_, fun W h => ?_, by omega, fun h0 h => ?_⟩
  · rw [run_slice_l W T ao ts.length cap hT.under .i64 i (by omega) (by omega), hT.size]
    simp only [Result.andThen, sliced, Int.toNat_natCast]
  · by_cases hc : cap = i
    · have : ts.drop i = [] := List.drop_eq_nil_of_le (by omega)
      rw [this]
      exact LayN.nil _ _
    · rw [if_neg hc]
      have := h.piece i ts.length
      rw [List.take_length] at this
      exact this
  · by_cases hc : cap = i
    · omega
    · rw [if_neg hc] at h
      cases ao with
      | none => have := h0 rfl; omega
      | some a => cases h
end TM
end Go.Proofs.YtiggdojppfblkaaGreatDoor
end

section
/- Layer 6: the contracts of the program's rightNode, Check. -/
namespace Go.Proofs.YtiggdojppfblkaaGreatDoor
open Go.RowKit Go.Lib Go.BigFrame
namespace TG
open OM TP TM

theorem idx_contains (l : List UInt8) (c : UInt8) : decide (0 ≤ Lib.indexByte l c) = l.contains c := by
  rw [Bool.eq_iff_iff, decide_eq_true_eq, List.contains_iff_mem]
  have hge := Lib.indexByte_ge l c
  constructor
  · intro h
    obtain ⟨o, ho⟩ : ∃ o : Nat, Lib.indexByte l c = o := ⟨_, (Int.toNat_of_nonneg h).symm⟩
    exact List.mem_of_getElem? (Lib.indexByte_some ho).1
  · intro h
    rcases Int.lt_or_le (Lib.indexByte l c) 0 with e | e
    · obtain ⟨k, hk, e2⟩ := List.getElem_of_mem h
      exact absurd (by rw [← e2]; exact List.getElem?_eq_getElem hk) (Lib.indexByte_none (show Lib.indexByte l c = -1 by omega) k)
    · exact e
set_option maxRecDepth 100000 in
set_option maxHeartbeats 3200000 in
theorem right_any (n : Nd) (w : World) (hd : n.data.length ≤ 1048576) : Calls Tryz.prog 51 #[ndVal n] w fun r w' => r = .returned (.bool (rightB n)) ∧ Below w.heap.size w w' := by
  obtain ⟨p, k, d, m⟩ := n
  unfold ndVal txt
  simp only at hd ⊢
  obtain ⟨S, hS⟩ : ∃ S : ByteArray, ⟨d.toArray⟩ = S := ⟨_, rfl⟩
  have hSd : S.data.toList = d := by rw [← hS]
  obtain ⟨dl, hdl⟩ : ∃ dl, d.length = dl := ⟨_, rfl⟩
  have hSz : S.size = dl := by rw [Lib.size_eq, hSd]; exact hdl
  obtain ⟨bc, hbc⟩ : ∃ b, d.contains 0 = b := ⟨_, rfl⟩
  have CC : Hid (∀ W, Calls Tryz.prog 84 #[.string S, .string ⟨#[0]⟩] W fun e w' => e = .returned (.bool bc) ∧ w' = W) := Lib.hid (fun W => by
    have := Tryz.strings_Contains_one S 0 W
    rw [idx_contains, hSd, hbc] at this
    exact this)
  rw [hS]
  have B0 : Hid (Below w.heap.size w (w.alloc (.cells #[.string ⟨p.toArray⟩, .int .i64 k, .string S, .int .i64 m] 25))) := Lib.hid ((Below.refl _ _).alloc (Nat.le_refl _) _)
  by_cases h1 : k = 1
  · have k1 : (k == 1) = true := by simp [h1]
    have HR : Hid (rightB ⟨p, k, d, m⟩ = (decide (dl ≤ 65536) && decide (0 ≤ m) && decide (m ≤ 511))) := Lib.hid (by unfold rightB; simp only; rw [if_pos h1, hdl])
    clear hS hSd hdl hd h1 hbc
    by_cases a1 : dl ≤ 65536
    · have b1 : (dl : Int) ≤ 65536 := by omega
      have b1d : decide ((dl : Int) ≤ 65536) = true := decide_eq_true b1
      by_cases a2 : 0 ≤ m
      · have b2d : decide (0 ≤ m) = true := decide_eq_true a2
        by_cases a3 : m ≤ 511
        · have HB : Hid (rightB ⟨p, k, d, m⟩ = true) := Lib.hid (by rw [HR.out, decide_eq_true a1, decide_eq_true a2, decide_eq_true a3]; rfl)
          clear a1
          go_enter Tryz.func51, Tryz.ntmps51
          repeat (first | go_skip | go_guarded | go_step | go_upon)
          go_ret
          exact ⟨by rw [HB.out]; simp [a3], B0.out⟩
        · have HB : Hid (rightB ⟨p, k, d, m⟩ = false) := Lib.hid (by rw [HR.out, decide_eq_false a3]; simp)
          clear a1
          go_enter Tryz.func51, Tryz.ntmps51
          repeat (first | go_skip | go_guarded | go_step | go_upon)
          go_ret
          exact ⟨by rw [HB.out]; simp [a3], B0.out⟩
      · have b2d : decide (0 ≤ m) = false := decide_eq_false a2
        have HB : Hid (rightB ⟨p, k, d, m⟩ = false) := Lib.hid (by rw [HR.out, decide_eq_false a2]; simp)
        clear a1
        go_enter Tryz.func51, Tryz.ntmps51
        repeat (first | go_skip | go_guarded | go_step | go_upon)
        go_ret
        exact ⟨by rw [HB.out]; rfl, B0.out⟩
    · have b1 : ¬ (dl : Int) ≤ 65536 := by omega
      have b1d : decide ((dl : Int) ≤ 65536) = false := decide_eq_false b1
      have HB : Hid (rightB ⟨p, k, d, m⟩ = false) := Lib.hid (by rw [HR.out, decide_eq_false a1]; simp)
      clear a1
      go_enter Tryz.func51, Tryz.ntmps51
      repeat (first | go_skip | go_guarded | go_step | go_upon)
      go_ret
      exact ⟨by rw [HB.out]; rfl, B0.out⟩
  · have k1 : (k == 1) = false := by simp [h1]
    by_cases h2 : k = 2
    · have k2 : (k == 2) = true := by simp [h2]
      have HR : Hid (rightB ⟨p, k, d, m⟩ = (decide (d = []) && decide (m = 0))) := Lib.hid (by unfold rightB; simp only; rw [if_neg h1, if_pos h2])
      clear hdl hd h1 h2 hSz hbc
      by_cases a1 : d = []
      · have b1 : S.toList.isEmpty = true := by rw [Lib.toList_data, hSd, a1]; rfl
        obtain ⟨b2, hb2⟩ : ∃ b2, (m == 0) = b2 := ⟨_, rfl⟩
        have HB : Hid (rightB ⟨p, k, d, m⟩ = b2) := Lib.hid (by rw [HR.out, decide_eq_true a1, ← hb2, Bool.true_and, Bool.eq_iff_iff]; simp)
        clear a1 hS hSd
        go_enter Tryz.func51, Tryz.ntmps51
        repeat (first | go_skip | go_guarded | go_step | go_upon)
        go_ret
        exact ⟨by rw [HB.out]; rfl, B0.out⟩
      · have b1 : S.toList.isEmpty = false := by rw [Lib.toList_data, hSd]; simp [a1]
        have HB : Hid (rightB ⟨p, k, d, m⟩ = false) := Lib.hid (by rw [HR.out, decide_eq_false a1]; simp)
        clear a1 hS hSd
        go_enter Tryz.func51, Tryz.ntmps51
        repeat (first | go_skip | go_guarded | go_step | go_upon)
        go_ret
        exact ⟨by rw [HB.out]; rfl, B0.out⟩
    · have k2 : (k == 2) = false := by simp [h2]
      by_cases h3 : k = 3
      · have k3 : (k == 3) = true := by simp [h3]
        have HR : Hid (rightB ⟨p, k, d, m⟩ = (!bc && decide (1 ≤ dl) && decide (dl ≤ 400) && decide (m = 0))) := Lib.hid (by unfold rightB; simp only; rw [if_neg h1, if_neg h2, if_pos h3, hdl, hbc])
        have hemp : S.toList.isEmpty = decide (dl = 0) := by rw [Lib.toList_data, hSd, ← hdl, Bool.eq_iff_iff]; simp
        clear hS hSd hdl h1 h2 h3 hd hbc
        by_cases a1 : 1 ≤ dl
        · have b1 : S.toList.isEmpty = false := by rw [hemp, decide_eq_false (by omega)]
          by_cases a2 : dl ≤ 400
          · have b2 : (dl : Int) ≤ 400 := by omega
            have b2d : decide ((dl : Int) ≤ 400) = true := decide_eq_true b2
            cases bc with
            | true =>
              have HB : Hid (rightB ⟨p, k, d, m⟩ = false) := Lib.hid (by rw [HR.out]; simp)
              clear a1 a2 hemp HR
              go_enter Tryz.func51, Tryz.ntmps51
              repeat (first | (go_at_call 84; refine (CC.out _).mono ?_; rintro r w1 ⟨rfl, rfl⟩; simp only []) | go_skip | go_guarded | go_step | go_upon)
              go_ret
              exact ⟨by rw [HB.out]; rfl, B0.out⟩
            | false =>
              obtain ⟨b3, hb3⟩ : ∃ b3, (m == 0) = b3 := ⟨_, rfl⟩
              have HB : Hid (rightB ⟨p, k, d, m⟩ = b3) := Lib.hid (by rw [HR.out, decide_eq_true a1, decide_eq_true a2, ← hb3, Bool.eq_iff_iff]; simp)
              clear a1 a2 hemp HR
              go_enter Tryz.func51, Tryz.ntmps51
              repeat (first | (go_at_call 84; refine (CC.out _).mono ?_; rintro r w1 ⟨rfl, rfl⟩; simp only []) | go_skip | go_guarded | go_step | go_upon)
              go_ret
              exact ⟨by rw [HB.out]; rfl, B0.out⟩
          · have b2 : ¬ (dl : Int) ≤ 400 := by omega
            have b2d : decide ((dl : Int) ≤ 400) = false := decide_eq_false b2
            have HB : Hid (rightB ⟨p, k, d, m⟩ = false) := Lib.hid (by rw [HR.out, decide_eq_false a2]; simp)
            clear a1 a2 hemp HR
            go_enter Tryz.func51, Tryz.ntmps51
            repeat (first | go_skip | go_guarded | go_step | go_upon)
            go_ret
            exact ⟨by rw [HB.out]; rfl, B0.out⟩
        · have b1 : S.toList.isEmpty = true := by rw [hemp, decide_eq_true (by omega)]
          have HB : Hid (rightB ⟨p, k, d, m⟩ = false) := Lib.hid (by rw [HR.out, decide_eq_false a1]; simp)
          clear a1 hemp HR
          go_enter Tryz.func51, Tryz.ntmps51
          repeat (first | go_skip | go_guarded | go_step | go_upon)
          go_ret
          exact ⟨by rw [HB.out]; rfl, B0.out⟩
      · have k3 : (k == 3) = false := by simp [h3]
        have HB : Hid (rightB ⟨p, k, d, m⟩ = false) := Lib.hid (by unfold rightB; simp only; rw [if_neg h1, if_neg h2, if_neg h3])
        clear hS hSd hdl hd h1 h2 h3 hbc
        go_enter Tryz.func51, Tryz.ntmps51
        repeat (first | go_skip | go_guarded | go_step | go_upon)
        go_ret
        exact ⟨by rw [HB.out]; rfl, B0.out⟩
end TG
end Go.Proofs.YtiggdojppfblkaaGreatDoor
end

section
/- Layer 6: the contract of the program's Check. -/
namespace Go.Proofs.YtiggdojppfblkaaGreatDoor
open Go.RowKit Go.Lib Go.BigFrame
namespace TG
open OM TP TM

def checkG (ts : List Nd) : Nat := if treeB ts = true then 0 else 60
theorem check_yes {ts : List Nd} (h : treeB ts = true) : checkG ts = 0 := if_pos h
theorem check_no {ts : List Nd} (h : treeB ts = false) : checkG ts = 60 := if_neg (by rw [h]; simp)
theorem box4 (w : World) (a b c d : Value) (t : TypeId) :
    (w.alloc (.cells #[a, b, c, d] t)).cell? ⟨w.heap.size, 0, none⟩ = some a ∧ (w.alloc (.cells #[a, b, c, d] t)).cell? ⟨w.heap.size, 1, none⟩ = some b ∧ (w.alloc (.cells #[a, b, c, d] t)).cell? ⟨w.heap.size, 2, none⟩ = some c ∧ (w.alloc (.cells #[a, b, c, d] t)).cell? ⟨w.heap.size, 3, none⟩ = some d := by
  have h := heap_alloc_new w (.cells #[a, b, c, d] t)
  exact ⟨by rw [cell_of_row _ _ 0 _ _ _ h]; rfl, by rw [cell_of_row _ _ 1 _ _ _ h]; rfl, by rw [cell_of_row _ _ 2 _ _ _ h]; rfl, by rw [cell_of_row _ _ 3 _ _ _ h]; rfl⟩
set_option maxRecDepth 100000 in
set_option maxHeartbeats 6400000 in
theorem check_any (ao : Option Addr) (cap : Nat) (ts : List Nd) (w : World) (he : NF.Env w) (h : LayN w ao ts) (hs : SmallG ts) (hl : ts.length ≤ maxLen) (hcap : ts.length ≤ cap) :
    Calls Tryz.prog 25 #[.slice ao ts.length cap] w fun r w' => r = .returned (.int .i64 (checkG ts : Nat)) ∧ Below w.heap.size w w' := by
  obtain ⟨n, hn⟩ : ∃ n, ts.length = n := ⟨_, rfl⟩
  have HN := Lib.hid hn
  have HL := Lib.hid h
  have HSm := Lib.hid hs
  have HE := Lib.hid he
  unfold maxLen at hl
  rw [hn] at hl hcap ⊢
  have hnz : (n : Int) ≤ 9223372036854775807 := by omega
  by_cases h0 : n ≤ 1000
  · have h0z : ¬ (1000 : Int) < n := by omega
    clear h hn hl hs he
    go_enter Tryz.func25, Tryz.ntmps25
    repeat (first | go_skip | go_guarded | go_step | go_upon)
    go_loopw [10] (fun s10 wr => ∃ k : Nat, s10 = .int .i64 k ∧ k ≤ n ∧ treeB (ts.take k) = true ∧ Below w.heap.size w wr) (fun s10 _ => n - (Go.RowKit.intOf s10).toNat)
    case atStart => exact ⟨0, rfl, Nat.zero_le _, rfl, Below.refl _ _⟩
    case round =>
      obtain ⟨k, rfl, hk, ht, hb⟩ := hrel
      have HT := Lib.hid ht
      have HB := Lib.hid hb
      have hbs := hb.size
      have HLr := Lib.hid (HL.out.below hb)
      have HEr := Lib.hid (HE.out.below hb)
      clear ht hb
      by_cases hlt : k < n
      · have hkz : (k : Int) < n := by omega
        obtain ⟨g, o, rfl, hg, hcell⟩ := HLr.out (by rw [HN.out]; omega)
        obtain ⟨x, hx⟩ : ∃ x, ts[k]? = some x := ⟨ts[k]'(by rw [HN.out]; exact hlt), List.getElem?_eq_getElem _⟩
        have hmem := List.mem_of_getElem? hx
        obtain ⟨hs1, hs2⟩ := HSm.out x hmem
        obtain ⟨c0, c1, c2, c3⟩ := hcell k x hx
        obtain ⟨X, hX, hXd⟩ := txt_of x.path
        obtain ⟨D, hD, _⟩ := txt_of x.data
        obtain ⟨kx, hkx⟩ : ∃ kx, x.kind = kx := ⟨_, rfl⟩
        obtain ⟨mx, hmx⟩ : ∃ mx, x.mode = mx := ⟨_, rfl⟩
        rw [hX] at c0
        rw [hkx] at c1
        rw [hD] at c2
        rw [hmx] at c3
        obtain ⟨wa, hwa⟩ : ∃ wa, wr.alloc (.cells #[.string X, .int .i64 kx, .string D, .int .i64 mx] 25) = wa := ⟨_, rfl⟩
        have hba : Below wr.heap.size wr wa := by rw [← hwa]; exact (Below.refl _ _).alloc (Nat.le_refl _) _
        obtain ⟨a0, a1, a2, a3⟩ := box4 wr (.string X) (.int .i64 kx) (.string D) (.int .i64 mx) 25
        rw [hwa] at a0 a1 a2 a3
        have HBa := Lib.hid (Below.trans HB.out (hba.mono hbs))
        have HEa := Lib.hid (HEr.out.below hba)
        have HLa := Lib.hid (HLr.out.below hba)
        obtain ⟨b1, hb1⟩ : ∃ b, NP.pathL x.path = b := ⟨_, rfl⟩
        obtain ⟨b2, hb2⟩ : ∃ b, rightB x = b := ⟨_, rfl⟩
        obtain ⟨b3, hb3⟩ : ∃ b, goesB (ts.take k) x.path = b := ⟨_, rfl⟩
        have HStep : Hid (treeB (ts.take (k + 1)) = (b1 && b2 && b3)) := Lib.hid (by rw [tree_step hx HT.out (by rw [HN.out]; exact h0), hb1, hb2, hb3])
        have D1 := Lib.hid (reg_g (w := wa) (f := 50) (args := #[.string X]) (v := .bool b1) (fun W hW => by
          have := path_txt X x.path W (HEa.out.below hW) hXd hs1
          rw [hb1] at this
          exact this))
        have D2 := Lib.hid (reg_g (w := wa) (f := 51) (args := #[.agg #[.string X, .int .i64 kx, .string D, .int .i64 mx]]) (v := .bool b2) (fun W hW => by
          have := right_any x W hs2
          unfold ndVal at this
          rw [hX, hD, hkx, hmx, hb2] at this
          exact this))
        have D3 := Lib.hid (reg_g (w := wa) (f := 52) (args := #[.slice (some ⟨g, o, none⟩) k cap, .string X]) (v := .bool b3) (fun W hW => by
          have hkl : (ts.take k).length = k := by rw [List.length_take, HN.out]; omega
          have := goes_any (some ⟨g, o, none⟩) cap (ts.take k) x.path W (HEa.out.below hW) ((HLa.out.below hW).take k) ((tree_iff _).1 HT.out).sorted (fun m hm => HSm.out m (List.mem_of_mem_take hm)) (by rw [hkl]; omega) hs1
          rw [hkl, hX, hb3] at this
          exact this))
        have hsl := sl_to ndsl_node (some ⟨g, o, none⟩) n k cap k rfl (by omega)
        have fa0 := cell_regrown a0
        have fa1 := cell_regrown a1
        have fa2 := cell_regrown a2
        have fa3 := cell_regrown a3
        clear hcell hX hXd hD hkx hmx hb1 hb2 hb3 hx hmem hs1 hs2 hlt
        repeat (first | go_skip | go_guarded | go_step | go_upon)
        cases b1 with
        | false =>
          have HF : Hid (checkG ts = 60) := Lib.hid (check_no (tree_stop (k := k + 1) (by rw [HStep.out]; rfl)))
          with_reducible refine wp_region_quiet_below (by kernel_rfl) (by kernel_rfl) ?_
          repeat (go_big_quiet_step (first | (go_at_call 50; exact D1.out _ _) | (go_at_call 51; exact D2.out _ _) | (go_at_call 52; exact D3.out _ _)))
          refine wpQuiet_nil ?_
          intro _ hw'
          obtain ⟨⟨dq, osq⟩, hw''⟩ := hw'
          subst hw''
          have W5 : Hid (Below wa.heap.size wa (Go.Sort.grow (redrawn wa dq) osq)) := Lib.hid (below_regrown wa dq osq)
          clear fa0 fa1 fa2 fa3 a0 a1 a2 a3 hwa
          generalize Go.Sort.grow (redrawn wa dq) osq = w5 at W5 ⊢
          repeat (first | go_skip | go_guarded | go_step | go_upon)
          go_ret
          exact ⟨by rw [HF.out]; rfl, Below.trans HBa.out (W5.out.mono HBa.out.size)⟩
        | true =>
          cases b2 with
          | false =>
            have HF : Hid (checkG ts = 60) := Lib.hid (check_no (tree_stop (k := k + 1) (by rw [HStep.out]; rfl)))
            with_reducible refine wp_region_quiet_below (by kernel_rfl) (by kernel_rfl) ?_
            repeat (go_big_quiet_step (first | (go_at_call 50; exact D1.out _ _) | (go_at_call 51; exact D2.out _ _) | (go_at_call 52; exact D3.out _ _)))
            refine wpQuiet_nil ?_
            intro _ hw'
            obtain ⟨⟨dq, osq⟩, hw''⟩ := hw'
            subst hw''
            have W5 : Hid (Below wa.heap.size wa (Go.Sort.grow (redrawn wa dq) osq)) := Lib.hid (below_regrown wa dq osq)
            clear fa0 fa1 fa2 fa3 a0 a1 a2 a3 hwa
            generalize Go.Sort.grow (redrawn wa dq) osq = w5 at W5 ⊢
            repeat (first | go_skip | go_guarded | go_step | go_upon)
            go_ret
            exact ⟨by rw [HF.out]; rfl, Below.trans HBa.out (W5.out.mono HBa.out.size)⟩
          | true =>
            cases b3 with
            | false =>
              have HF : Hid (checkG ts = 60) := Lib.hid (check_no (tree_stop (k := k + 1) (by rw [HStep.out]; rfl)))
              with_reducible refine wp_region_quiet_below (by kernel_rfl) (by kernel_rfl) ?_
              repeat (go_big_quiet_step (first | (go_at_call 50; exact D1.out _ _) | (go_at_call 51; exact D2.out _ _) | (go_at_call 52; exact D3.out _ _)))
              refine wpQuiet_nil ?_
              intro _ hw'
              obtain ⟨⟨dq, osq⟩, hw''⟩ := hw'
              subst hw''
              have W5 : Hid (Below wa.heap.size wa (Go.Sort.grow (redrawn wa dq) osq)) := Lib.hid (below_regrown wa dq osq)
              clear fa0 fa1 fa2 fa3 a0 a1 a2 a3 hwa
              generalize Go.Sort.grow (redrawn wa dq) osq = w5 at W5 ⊢
              repeat (first | go_skip | go_guarded | go_step | go_upon)
              go_ret
              exact ⟨by rw [HF.out]; rfl, Below.trans HBa.out (W5.out.mono HBa.out.size)⟩
            | true =>
              with_reducible refine wp_region_quiet_below (by kernel_rfl) (by kernel_rfl) ?_
              repeat (go_big_quiet_step (first | (go_at_call 50; exact D1.out _ _) | (go_at_call 51; exact D2.out _ _) | (go_at_call 52; exact D3.out _ _)))
              refine wpQuiet_nil ?_
              intro _ hw'
              obtain ⟨⟨dq, osq⟩, hw''⟩ := hw'
              subst hw''
              have W5 : Hid (Below wa.heap.size wa (Go.Sort.grow (redrawn wa dq) osq)) := Lib.hid (below_regrown wa dq osq)
              clear fa0 fa1 fa2 fa3 a0 a1 a2 a3 hwa
              generalize Go.Sort.grow (redrawn wa dq) osq = w5 at W5 ⊢
              repeat (first | go_skip | go_guarded | go_step | go_upon)
              exact ⟨⟨k + 1, by go_num, by omega, HStep.out, Below.trans HBa.out (W5.out.mono HBa.out.size)⟩, by simp [Go.RowKit.intOf]; omega⟩
      · have hkz : ¬ (k : Int) < n := by omega
        have HF : Hid (checkG ts = 0) := Lib.hid (check_yes (by
          have := HT.out
          rw [List.take_of_length_le (by rw [HN.out]; omega)] at this
          exact this))
        clear hlt
        repeat (first | go_skip | go_guarded | go_step | go_upon)
        go_ret
        exact ⟨by rw [HF.out]; rfl, HB.out⟩
  · have h0z : (1000 : Int) < n := by omega
    have HB : Hid (checkG ts = 60) := Lib.hid (check_no (by unfold treeB; rw [hn, decide_eq_false h0]; rfl))
    clear h hn hl hs h0 he
    go_enter Tryz.func25, Tryz.ntmps25
    repeat (first | go_skip | go_guarded | go_step | go_upon)
    go_ret
    exact ⟨by rw [HB.out]; rfl, Below.refl _ _⟩
end TG
end Go.Proofs.YtiggdojppfblkaaGreatDoor
end

section
/- Layer 6: what the contracts of lists of nodes, made and read, have in common (no function of the program is read here). -/
namespace Go.Proofs.YtiggdojppfblkaaGreatDoor
open Go.RowKit Go.Lib Go.BigFrame
namespace TR
open OM TP TM

def zeroN : Nd := ⟨[], 0, [], 0⟩
theorem cell4 {W : World} {b : Nat} {a0 a1 a2 a3 : Value} {t : TypeId} (h : W.heap[b]? = some (.cells #[a0, a1, a2, a3] t (0, 0))) :
    W.cell? ⟨b, 0, none⟩ = some a0 ∧ W.cell? ⟨b, 1, none⟩ = some a1 ∧ W.cell? ⟨b, 2, none⟩ = some a2 ∧ W.cell? ⟨b, 3, none⟩ = some a3 ∧ ∀ j, W.frozen? ⟨b, j, none⟩ = false :=
  ⟨by rw [cell_of_row W b 0 _ _ _ h]; rfl, by rw [cell_of_row W b 1 _ _ _ h]; rfl, by rw [cell_of_row W b 2 _ _ _ h]; rfl, by rw [cell_of_row W b 3 _ _ _ h]; rfl, fun j => frozen_of_row W b j _ _ h⟩
theorem below4 {w W : World} (h : Below w.heap.size w W) (a b c d : Value) : Below w.heap.size w ((((W.setCell ⟨w.heap.size, 0, none⟩ a).setCell ⟨w.heap.size, 1, none⟩ b).setCell ⟨w.heap.size, 2, none⟩ c).setCell ⟨w.heap.size, 3, none⟩ d) :=
  (((h.setCell (p := ⟨w.heap.size, 0, none⟩) (Nat.le_refl _) _).setCell (p := ⟨w.heap.size, 1, none⟩) (Nat.le_refl _) _).setCell (p := ⟨w.heap.size, 2, none⟩) (Nat.le_refl _) _).setCell (p := ⟨w.heap.size, 3, none⟩) (Nat.le_refl _) _
theorem infoN : (Tryz.prog.info? 25).map (fun i => (i.zero, i.size, i.bytes)) = some (some (ndVal zeroN), 4, 48) := by kernel_rfl
/-- What At answers, wherever the nodes lie. -/
def AtPost (l : List Nd) (w : World) (r : Ending) (w' : World) : Prop :=
  ∃ v, r = .returned v ∧ w'.ownsRow w.heap.size 25 4 v l.length (nodesC l) ∧ Below w.heap.size w w'
theorem AtPost.nil {l : List Nd} {w w' : World} (h : l = []) (hb : Below w.heap.size w w') : AtPost l w (.returned (.slice none 0 0)) w' :=
  ⟨_, rfl, by rw [h]; exact World.ownsRow_nil _ _ _ _, hb⟩
theorem nd_one (n : Nd) : ∀ u ∈ ndCells n, u.oneCell' = true := by
  intro u hu
  unfold ndCells txt at hu
  simp at hu
  rcases hu with rfl | rfl | rfl | rfl <;> rfl
/-- The cells of a node just made. -/
theorem four_new (W : World) (g : Nat) (hg : g = W.heap.size) (n : Nd) (a d : Value) (ha : txt n.path = a) (hd : txt n.data = d) (t : TypeId) :
    ∀ (j : Nat) (u : Value), (ndCells n)[j]? = some u → (W.alloc (.cells #[a, .int .i64 n.kind, d, .int .i64 n.mode] t)).cell? ((⟨g, 0, none⟩ : Addr).add j) = some u := by
  subst hg ha hd
  obtain ⟨c0, c1, c2, c3, _⟩ := cell4 (heap_alloc_new W (.cells #[txt n.path, .int .i64 n.kind, txt n.data, .int .i64 n.mode] t))
  intro j u hu
  have e : (⟨W.heap.size, 0, none⟩ : Addr).add j = ⟨W.heap.size, j, none⟩ := by simp [Addr.add]; omega
  rw [e]
  match j with
  | 0 => exact c0.trans hu
  | 1 => exact c1.trans hu
  | 2 => exact c2.trans hu
  | 3 => exact c3.trans hu
  | j + 4 => cases hu
/-- A list of one node, just made, is owned. -/
theorem own_new (W : World) (base : Nat) (hb : base ≤ W.heap.size) (n : Nd) (a d : Value) (ha : txt n.path = a) (hd : txt n.data = d) :
    (W.alloc (.cells #[a, .int .i64 n.kind, d, .int .i64 n.mode] 25)).ownsRow base 25 4 (.slice (some ⟨W.heap.size, 0, none⟩) 1 1) 1 (ndCells n) := by
  subst ha hd
  exact ⟨rfl, .inr ⟨W.heap.size, 1, _, rfl, hb, heap_alloc_new W _, Nat.le_refl _, by decide, rfl, rfl⟩⟩
theorem lay_cells {W : World} {ad : Addr} {ts : List Nd} (h : LayN W (some ad) ts) : ∀ (j : Nat) (u : Value), (nodesC ts)[j]? = some u → W.cell? (ad.add j) = some u := by
  intro j u hu
  have hj := (List.getElem?_eq_some_iff.1 hu).1
  rw [nodes_len] at hj
  obtain ⟨g, o, e, _, hc⟩ := h (by omega)
  cases e
  obtain ⟨x, hx⟩ : ∃ x, ts[j / 4]? = some x := ⟨_, List.getElem?_eq_getElem (show j / 4 < ts.length by omega)⟩
  obtain ⟨y0, y1, y2, y3⟩ := hc _ x hx
  obtain ⟨z0, z1, z2, z3⟩ := nodes_at ts _ x hx
  have e : (⟨g, o, none⟩ : Addr).add j = ⟨g, o + j, none⟩ := by simp [Addr.add]
  rw [e]
  rcases (by omega : j = j / 4 * 4 ∨ j = j / 4 * 4 + 1 ∨ j = j / 4 * 4 + 2 ∨ j = j / 4 * 4 + 3) with hr | hr | hr | hr
  · rw [hr] at hu ⊢; rw [z0] at hu; rw [← hu]; exact y0
  · rw [hr] at hu ⊢; rw [z1] at hu; rw [← hu]; exact y1
  · rw [hr] at hu ⊢; rw [z2] at hu; rw [← hu]; exact y2
  · rw [hr] at hu ⊢; rw [z3] at hu; rw [← hu]; exact y3
theorem nds_one (ts : List Nd) : ∀ u ∈ nodesC ts, u.oneCell' = true := by
  intro u hu
  unfold nodesC at hu
  rw [List.mem_flatMap] at hu
  obtain ⟨x, _, hx⟩ := hu
  exact nd_one x u hx
end TR
end Go.Proofs.YtiggdojppfblkaaGreatDoor
end

section
/- Footprints: what was there is as it was, but for the blocks of a set. (General: no program's text.) -/
namespace Go.Proofs.YtiggdojppfblkaaGreatDoor
open Go.RowKit
namespace FP

/-- What was there is as it was, but for the blocks of S; the streams are as they were; no block has gone. -/
structure Out (S : Nat → Prop) (w w' : World) : Prop where
  os : w'.os = w.os
  tape : w'.tape = w.tape
  output : w'.output = w.output
  size : w.heap.size ≤ w'.heap.size
  block : ∀ k, k < w.heap.size → ¬ S k → w'.heap[k]? = w.heap[k]?
theorem Out.refl (S : Nat → Prop) (w : World) : Out S w w := ⟨rfl, rfl, rfl, Nat.le_refl _, fun _ _ _ => rfl⟩
theorem Out.mono {S T : Nat → Prop} {w w' : World} (h : Out S w w') (hs : ∀ k, k < w.heap.size → S k → T k) : Out T w w' :=
  ⟨h.os, h.tape, h.output, h.size, fun k hk hn => h.block k hk (fun hS => hn (hs k hk hS))⟩
/-- The second step's footprint holds nothing old but what is of the first's. -/
theorem Out.then {S T : Nat → Prop} {a b c : World} (h : Out S a b) (k : Out T b c) (hs : ∀ j, j < a.heap.size → T j → S j) : Out S a c :=
  ⟨k.os.trans h.os, k.tape.trans h.tape, k.output.trans h.output, Nat.le_trans h.size k.size, fun j hj hn =>
    (k.block j (Nat.lt_of_lt_of_le hj h.size) (fun hT => hn (hs j hj hT))).trans (h.block j hj hn)⟩
theorem Out.trans {S : Nat → Prop} {a b c : World} (h : Out S a b) (k : Out S b c) : Out S a c := h.then k (fun _ _ h => h)
theorem Out.of_below {B : Nat} {w w' : World} (h : Below B w w') : Out (fun k => B ≤ k) w w' := ⟨h.os, h.tape, h.output, h.size, fun k _ hn => h.block k (by omega)⟩
theorem Out.below {S : Nat → Prop} {B : Nat} {w w' : World} (h : Out S w w') (hs : ∀ k, k < B → k < w.heap.size → ¬ S k) (hB : B ≤ w.heap.size) : Below B w w' :=
  ⟨h.os, h.tape, h.output, h.size, fun k hk => h.block k (by omega) (hs k hk (by omega))⟩
/-- A call that changes nothing old. -/
theorem Out.thenBelow {S : Nat → Prop} {a b c : World} (h : Out S a b) (k : Below b.heap.size b c) : Out S a c :=
  h.then (Out.of_below k) (fun j hj hT => absurd hT (by have := h.size; omega))
theorem Out.alloc {S : Nat → Prop} {a w : World} (h : Out S a w) (o : Obj) : Out S a (w.alloc o) :=
  h.thenBelow ((Below.refl _ _).alloc (Nat.le_refl _) o)
theorem Out.drew {S : Nat → Prop} {a w : World} (h : Out S a w) : Out S a w.drew := ⟨h.os, h.tape, h.output, h.size, h.block⟩
theorem Out.setCell {S : Nat → Prop} {a w : World} (h : Out S a w) {p : Addr} (hp : p.block < a.heap.size → S p.block) (u : Value) : Out S a (w.setCell p u) :=
  h.then (T := fun k => k = p.block) ⟨rfl, rfl, rfl, by simp [World.setCell], fun k _ hk => Below.heap_setCell _ _ _ _ hk⟩ (fun j hj hT => by subst hT; exact hp hj)
theorem Out.grown {S : Nat → Prop} {a w w' : World} {row : Option Nat} (h : Out S a w) (hg : w.grownBy w' row) (hr : ∀ k, row = some k → k < a.heap.size → S k) : Out S a w' :=
  h.then (T := fun k => row = some k) ⟨hg.os, hg.tape, hg.output, hg.size, fun k hk hn => hg.block k hk (fun e => hn e.symm)⟩ (fun j hj hT => hr j hT hj)
theorem Out.cell {S : Nat → Prop} {w w' : World} (h : Out S w w') {p : Addr} (hp : p.block < w.heap.size) (hn : ¬ S p.block) : w'.cell? p = w.cell? p := World.cell?_of_block (w := w) (h.block p.block hp hn)
theorem Out.frozen {S : Nat → Prop} {w w' : World} (h : Out S w w') {p : Addr} (hp : p.block < w.heap.size) (hn : ¬ S p.block) : w'.frozen? p = w.frozen? p := World.frozen?_of_block (w := w) (h.block p.block hp hn)
theorem Out.row {S : Nat → Prop} {w w' : World} (h : Out S w w') {k : Nat} {o : Obj} (ho : w.heap[k]? = some o) (hn : ¬ S k) : w'.heap[k]? = some o :=
  (h.block k (by
    rcases Nat.lt_or_ge k w.heap.size with h1 | h1
    · exact h1
    · rw [Array.getElem?_eq_none h1] at ho; cases ho) hn).trans ho
/-- A row that a call owns, outside of the footprint. -/
theorem Out.owns {S : Nat → Prop} {w w' : World} (h : Out S w w') {base : Nat} {e : TypeId} {size n : Nat} {v : Value} {xs : List Value} (ho : w.ownsRow base e size v n xs) (hn : ∀ g, v.ownBlock = some g → ¬ S g) : w'.ownsRow base e size v n xs := by
  obtain ⟨h1, h2 | ⟨g, cap, cur, rfl, hg, hr, h3⟩⟩ := ho
  · exact ⟨h1, .inl h2⟩
  · exact ⟨h1, .inr ⟨g, cap, cur, rfl, hg, h.row hr (hn g rfl), h3⟩⟩
end FP
end Go.Proofs.YtiggdojppfblkaaGreatDoor
end

section
/- Layer 3: how a reader lies in memory; the contracts of the readers' inner functions (left, fail, take, stopped, oneWay, number, counted). -/
namespace Go.Proofs.YtiggdojppfblkaaGreatDoor
open Go.RowKit Go.Lib
namespace CR
open CP

/-- A reader in block bk: the bytes that are left, and its fault. -/
structure RdAt (bk : Nat) (s : ByteArray) (f : Int) (w : World) : Prop where
  c0 : w.cell? ⟨bk, 0, none⟩ = some (.string s)
  c1 : w.cell? ⟨bk, 1, none⟩ = some (.int .i64 f)
  f0 : w.frozen? ⟨bk, 0, none⟩ = false
  f1 : w.frozen? ⟨bk, 1, none⟩ = false
  lt : bk < w.heap.size
theorem RdAt.out {bk : Nat} {S : Nat → Prop} {s : ByteArray} {f : Int} {w w' : World} (h : RdAt bk s f w) (hb : FP.Out S w w') (hS : ¬ S bk) : RdAt bk s f w' :=
  ⟨by rw [hb.cell (p := ⟨bk, 0, none⟩) h.lt hS]; exact h.c0, by rw [hb.cell (p := ⟨bk, 1, none⟩) h.lt hS]; exact h.c1, by rw [hb.frozen (p := ⟨bk, 0, none⟩) h.lt hS]; exact h.f0, by rw [hb.frozen (p := ⟨bk, 1, none⟩) h.lt hS]; exact h.f1, Nat.lt_of_lt_of_le h.lt hb.size⟩
theorem RdAt.set0 {bk : Nat} {s : ByteArray} {f : Int} {w : World} (h : RdAt bk s f w) (t : ByteArray) : RdAt bk t f (w.setCell ⟨bk, 0, none⟩ (.string t)) :=
  ⟨World.cell?_setCell_same _ _ _ h.c0, by rw [World.cell?_setCell_other _ _ _ _ (by simp)]; exact h.c1, by rw [World.frozen?_setCell]; exact h.f0, by rw [World.frozen?_setCell]; exact h.f1, by rw [World.size_setCell]; exact h.lt⟩
theorem RdAt.set1 {bk : Nat} {s : ByteArray} {f : Int} {w : World} (h : RdAt bk s f w) (e : Int) : RdAt bk s e (w.setCell ⟨bk, 1, none⟩ (.int .i64 e)) :=
  ⟨by rw [World.cell?_setCell_other _ _ _ _ (by simp)]; exact h.c0, World.cell?_setCell_same _ _ _ h.c1, by rw [World.frozen?_setCell]; exact h.f0, by rw [World.frozen?_setCell]; exact h.f1, by rw [World.size_setCell]; exact h.lt⟩
theorem RdAt.keep {bk B : Nat} {s : ByteArray} {f : Int} {w w' : World} (h : RdAt bk s f w) (hb : Below B w w') (hB : bk < B) : RdAt bk s f w' :=
  ⟨by rw [hb.cell (p := ⟨bk, 0, none⟩) hB]; exact h.c0, by rw [hb.cell (p := ⟨bk, 1, none⟩) hB]; exact h.c1, by rw [hb.frozen (p := ⟨bk, 0, none⟩) hB]; exact h.f0, by rw [hb.frozen (p := ⟨bk, 1, none⟩) hB]; exact h.f1, Nat.lt_of_lt_of_le h.lt hb.size⟩
abbrev ptr (bk : Nat) : Value := .pointer (some ⟨bk, 0, none⟩)
theorem left_any (bk : Nat) (s : ByteArray) (f : Int) (w : World) (h : RdAt bk s f w) (hs : s.size ≤ maxLen) :
    Calls Tryz.prog 107 #[ptr bk] w fun e w' => e = .returned (.int .i64 s.size) ∧ w = w' := by
  obtain ⟨c0, c1, f0, f1, lt⟩ := h
  unfold maxLen at hs
  go_enter Tryz.func107, Tryz.ntmps107
  go_wp2
  go_ret
  exact ⟨rfl, rfl⟩
theorem fail_any (bk : Nat) (s : ByteArray) (f : Int) (e : Int) (w : World) (h : RdAt bk s f w) :
    Calls Tryz.prog 104 #[ptr bk, .int .i64 e] w fun r w' => r = .returned (.tuple #[]) ∧ RdAt bk s e w' ∧ FP.Out (· = bk) w w' := by
  obtain ⟨c0, c1, f0, f1, lt⟩ := h
  have Hlt := Lib.hid lt
  have Hc0 := Lib.hid c0
  have Hf0 := Lib.hid f0
  have Hf1 := Lib.hid f1
  go_enter Tryz.func104, Tryz.ntmps104
  go_wp2
  go_end0
  exact ⟨rfl, (RdAt.mk Hc0.out c1 Hf0.out Hf1.out Hlt.out).set1 _, (FP.Out.refl (· = bk) _).setCell (p := ⟨bk, 1, none⟩) (fun _ => rfl) _⟩
theorem take_any (bk n : Nat) (s : ByteArray) (f : Int) (w : World) (h : RdAt bk s f w) (hs : s.size ≤ maxLen) (hn : n ≤ s.size) :
    Calls Tryz.prog 105 #[ptr bk, .int .i64 n] w fun r w' => r = .returned (.string (s.extract 0 n)) ∧ RdAt bk (s.extract n s.size) f w' ∧ FP.Out (· = bk) w w' := by
  obtain ⟨c0, c1, f0, f1, lt⟩ := h
  unfold maxLen at hs
  have hn2 : (n : Int) ≤ s.size := by omega
  go_enter Tryz.func105, Tryz.ntmps105
  go_wp2
  go_ret
  exact ⟨rfl, (RdAt.mk c0 c1 f0 f1 lt).set0 _, (FP.Out.refl (· = bk) _).setCell (p := ⟨bk, 0, none⟩) (fun _ => rfl) _⟩
theorem stopped_no (bk : Nat) (s : ByteArray) (w : World) (h : RdAt bk s 0 w) :
    Calls Tryz.prog 102 #[ptr bk] w fun r w' => r = .returned (.bool false) ∧ w = w' := by
  obtain ⟨c0, c1, f0, f1, lt⟩ := h
  go_enter Tryz.func102, Tryz.ntmps102
  go_wp2
  go_ret
  exact ⟨rfl, rfl⟩
theorem stopped_yes (bk : Nat) (s : ByteArray) (f : Int) (w : World) (h : RdAt bk s f w) (hf : f ≠ 0) :
    Calls Tryz.prog 102 #[ptr bk] w fun r w' => r = .returned (.bool true) ∧ w = w' := by
  obtain ⟨c0, c1, f0, f1, lt⟩ := h
  have hfb : (f != 0) = true := by simpa using hf
  go_enter Tryz.func102, Tryz.ntmps102
  go_wp2
  go_ret
  exact ⟨rfl, rfl⟩
theorem one_way (x wd b : Int) (w : World) :
    Calls Tryz.prog 135 #[.int .i64 x, .int .i64 wd, .int .i64 b] w fun r w' =>
      r = .returned (if b = 0 ∧ 1 < wd then .tuple #[.int .i64 0, .int .i64 0, .int .i64 31] else .tuple #[.int .i64 x, .int .i64 wd, .int .i64 0]) ∧ w = w' := by
  by_cases h0 : b = 0
  · subst h0
    by_cases h1 : 1 < wd
    · rw [if_pos ⟨rfl, h1⟩]
      go_enter Tryz.func135, Tryz.ntmps135
      go_wp2
      go_ret3
      exact ⟨rfl, rfl⟩
    · rw [if_neg (fun h => h1 h.2)]
      go_enter Tryz.func135, Tryz.ntmps135
      go_wp2
      go_ret3
      exact ⟨rfl, rfl⟩
  · rw [if_neg (fun h => h0 h.1)]
    have hb : (b == 0) = false := by simpa using h0
    go_enter Tryz.func135, Tryz.ntmps135
    go_wp2
    go_ret3
    exact ⟨rfl, rfl⟩
theorem ofInt_i64 (a : Nat) (ha : a < 2 ^ 63) : (BitVec.ofInt 64 (a : Int)).toNat = a := by
  rw [BitVec.ofInt_natCast, BitVec.toNat_ofNat]; exact Nat.mod_eq_of_lt (by omega)
theorem or_i64 (a b : Nat) (ha : a < 2 ^ 63) (hb : b < 2 ^ 63) : bits .or .i64 (a : Int) (b : Int) = ((a ||| b : Nat) : Int) := by
  have hx : a ||| b < 2 ^ 63 := Nat.or_lt_two_pow ha hb
  show IntKind.i64.wrap ((BitVec.ofInt 64 (a : Int) ||| BitVec.ofInt 64 (b : Int)).toNat : Int) = _
  rw [BitVec.toNat_or, ofInt_i64 a ha, ofInt_i64 b hb, IntKind.wrap_i64]
  omega
theorem wrap64_nat {n : Nat} (h : n < 2 ^ 63) : wrap64 (n : Int) = n := by unfold wrap64; omega
theorem or_step {v k b : Nat} (hk : k < 9) (hv : v < 128 ^ k) (hb : b < 256) : bits .or .i64 (v : Int) (wrap64 ((wrap64 (b : Int)).tmod 128 * 2 ^ (7 * k))) = ((v + b % 128 * 128 ^ k : Nat) : Int) := by
  have ep : (128 : Nat) ^ k = 2 ^ (7 * k) := by rw [Nat.pow_mul]
  have h0 : b % 128 < 128 := by omega
  have e0 : (wrap64 (b : Int)).tmod 128 = ((b % 128 : Nat) : Int) := by
    rw [wrap64_nat (by omega), Int.tmod_eq_emod_of_nonneg (by omega)]
    omega
  rw [e0]
  generalize b % 128 = c at h0
  rw [ep] at hv ⊢
  have h63 : c * 2 ^ (7 * k) < 2 ^ 63 := by
    have h1 : c * 2 ^ (7 * k) < 2 ^ 7 * 2 ^ (7 * k) := Nat.mul_lt_mul_of_pos_right h0 (Nat.pow_pos (by decide))
    rw [← Nat.pow_add] at h1
    exact Nat.lt_of_lt_of_le h1 (Nat.pow_le_pow_right (by decide) (by omega))
  have hv63 : v < 2 ^ 63 := Nat.lt_of_lt_of_le hv (Nat.pow_le_pow_right (by decide) (by omega))
  have ec : (c : Int) * 2 ^ (7 * k) = ((c * 2 ^ (7 * k) : Nat) : Int) := by
    rw [Int.natCast_mul, Int.natCast_pow]
    rfl
  rw [ec, wrap64_nat h63, or_i64 v _ hv63 h63]
  congr 1
  rw [Nat.or_comm, Nat.mul_comm, ← Nat.two_pow_add_eq_or_of_lt hv, Nat.add_comm]
theorem or_step2 {v k b : Nat} (hk : k < 9) (hv : v < 128 ^ k) (hb : b < 256) : bits .or .i64 (v : Int) (wrap64 ((b : Int) % 128 * 2 ^ (7 * k))) = ((v + b % 128 * 128 ^ k : Nat) : Int) := by
  have e := or_step hk hv hb
  rw [wrap64_nat (by omega), Int.tmod_eq_emod_of_nonneg (by omega)] at e
  exact e
theorem rd_at {l : List UInt8} {k v : Nat} {b : UInt8} (hb : l[k]? = some b) (hk : k < 9) : rd k v (l.drop k) = if b.toNat < 128 then (if b = 0 ∧ 0 < k then (0, 0, 31) else (v + b.toNat * 128 ^ k, k + 1, 0)) else rd (k + 1) (v + b.toNat % 128 * 128 ^ k) (l.drop (k + 1)) := by
  obtain ⟨hlt, rfl⟩ := List.getElem?_eq_some_iff.1 hb
  rw [List.drop_eq_getElem_cons hlt]
  rw [rd, if_neg (by omega)]
theorem rd_stop {l : List UInt8} {k v : Nat} (hk9 : k ≤ 9) (hk : k ≤ l.length) (h : ¬ (k < l.length ∧ k < 9)) : rd k v (l.drop k) = (0, 0, if k = 9 then 31 else 30) := by
  by_cases h9 : k = 9
  · rw [if_pos h9]
    cases hd : l.drop k with
    | nil => rw [rd, if_pos h9]
    | cons b r => rw [rd, if_pos h9]
  · have e : k = l.length := by omega
    rw [e, List.drop_length, rd]
theorem step_lt {v k b : Nat} (hv : v < 128 ^ k) : v + b % 128 * 128 ^ k < 128 ^ (k + 1) := by
  have h0 : b % 128 + 1 ≤ 128 := by omega
  have := Nat.mul_le_mul_right (128 ^ k) h0
  rw [Nat.add_mul] at this
  rw [Nat.pow_succ]
  omega
set_option maxRecDepth 100000 in
set_option maxHeartbeats 1600000 in
theorem number_any (bk : Nat) (s : ByteArray) (f : Int) (w : World) (h : RdAt bk s f w) (hs : s.size ≤ maxLen) :
    Calls Tryz.prog 106 #[ptr bk] w fun r w' => r = .returned (.tuple #[.int .i64 (rd 0 0 s.data.toList).1, .int .i64 (rd 0 0 s.data.toList).2.1, .int .i64 (rd 0 0 s.data.toList).2.2]) ∧ w = w' := by
  have cL := left_any bk s f w h hs
  have cW := one_way
  obtain ⟨c0, c1, f0, f1, lt⟩ := h
  unfold maxLen at hs
  obtain ⟨R, hR⟩ : ∃ R, rd 0 0 s.data.toList = R := ⟨_, rfl⟩
  rw [hR]
  have HR := Lib.hid hR
  have HS := Lib.hid (Lib.size_eq s)
  clear hR
  go_enter Tryz.func106, Tryz.ntmps106
  go_wp2
  go_loop [2, 3] (fun s2 s3 => ∃ k v : Nat, k ≤ 9 ∧ k ≤ s.size ∧ s3 = .int .i64 k ∧ s2 = .int .i64 v ∧ v < 128 ^ k ∧ rd k v (s.data.toList.drop k) = R) (fun _ s3 => 9 - (Go.RowKit.intOf s3).toNat)
  case atStart => exact ⟨0, 0, by omega, by omega, rfl, rfl, by decide, HR.out⟩
  case round =>
    obtain ⟨k, v, hk9, hks, rfl, rfl, hv, hrd⟩ := hrel
    have Hv := Lib.hid hv
    have Hrd := Lib.hid hrd
    clear hv hrd
    by_cases hlt : k < s.size ∧ k < 9
    · obtain ⟨h1, h2⟩ := hlt
      have hz1 : (k : Int) < s.size := by omega
      have hz2 : (k : Int) < 9 := by omega
      have Hget := Lib.hid (rd_at (v := v) (Lib.data_getElem? s k h1) h2)
      have Hor := Lib.hid (or_step h2 Hv.out (s[k]).toNat_lt)
      have Hor2 := Lib.hid (or_step2 h2 Hv.out (s[k]).toNat_lt)
      by_cases hl : (s[k]).toNat < 128
      · have hlz : ((s[k].toNat : Nat) : Int) < 128 := by omega
        have Hl := Lib.hid hl
        clear hl
        go_wp2_with fail
        refine cL.mono ?_
        rintro e w1 ⟨rfl, rfl⟩
        by_cases hm : (s.size : Int) ≤ 9
        all_goals
          go_wp2_with fail
          refine (cW _ _ _ _).mono ?_
          rintro e w2 ⟨rfl, rfl⟩
          by_cases hz : s[k] = 0 ∧ 0 < k
          · rw [if_pos (by rw [hz.1]; exact ⟨rfl, by omega⟩)]
            have HF := Lib.hid (show R = (0, 0, 31) by rw [← Hrd.out, Hget.out, if_pos Hl.out, if_pos hz])
            go_wp2
            go_ret3
            exact ⟨by rw [HF.out]; rfl, rfl⟩
          · rw [if_neg (by rintro ⟨h0, h3⟩; exact hz ⟨UInt8.toNat_inj.1 (by show _ = 0; omega), by omega⟩)]
            have HF := Lib.hid (show R = (v + s[k].toNat * 128 ^ k, k + 1, 0) by rw [← Hrd.out, Hget.out, if_pos Hl.out, if_neg hz])
            go_wp2
            go_ret3
            exact ⟨by rw [HF.out]; first | rw [Hor.out] | rw [Hor2.out]; rw [Nat.mod_eq_of_lt Hl.out]; go_num, rfl⟩
      · have hlz : ¬ ((s[k].toNat : Nat) : Int) < 128 := by omega
        have hu : ((s[k].toNat : Nat) : Int) < 256 := by have := (s[k]).toNat_lt; omega
        have Hl := Lib.hid hl
        clear hl
        go_wp2_with fail
        refine cL.mono ?_
        rintro e w1 ⟨rfl, rfl⟩
        by_cases hm : (s.size : Int) ≤ 9
        all_goals
          go_wp2_with fail
          go_round
          case rel => exact ⟨k + 1, v + s[k].toNat % 128 * 128 ^ k, by omega, by omega, by go_num, by first | rw [Hor.out] | rw [Hor2.out], step_lt Hv.out, by rw [← Hrd.out, Hget.out, if_neg Hl.out]⟩
          case measure => simp [Go.RowKit.intOf]; omega
    · have Hst := Lib.hid (rd_stop (v := v) hk9 (by rw [← HS.out]; exact hks) (by rw [← HS.out]; exact hlt))
      go_wp2_with fail
      refine cL.mono ?_
      rintro e w1 ⟨rfl, rfl⟩
      by_cases h9 : k = 9
      · subst h9
        go_wp2
        all_goals
          go_ret3
          exact ⟨by rw [← Hrd.out, Hst.out]; rfl, rfl⟩
      · have hz : ¬ (k : Int) < s.size := by omega
        have h9z : ¬ (k : Int) = 9 := by omega
        go_wp2
        all_goals
          go_ret3
          exact ⟨by rw [← Hrd.out, Hst.out, if_neg h9]; rfl, rfl⟩
end CR
end Go.Proofs.YtiggdojppfblkaaGreatDoor
end

section
/- Layer 3: the contracts of counted and of the reader's calls. -/
namespace Go.Proofs.YtiggdojppfblkaaGreatDoor
open Go.RowKit Go.Lib
namespace CR
open CP

def Tri (a : Nat × Nat × Nat) (w : World) (r : Ending) (w' : World) : Prop := r = .returned (.tuple #[.int .i64 a.1, .int .i64 a.2.1, .int .i64 a.2.2]) ∧ w = w'
theorem cnt_err {l : List UInt8} {x wd e : Nat} {most least : Int} (h : rd 0 0 l = (x, wd, e)) (he : e ≠ 0) : cnt l most least = (0, 0, e) := by unfold cnt; rw [h, if_pos he]
theorem cnt_more {l : List UInt8} {x wd : Nat} {most least : Int} (h : rd 0 0 l = (x, wd, 0)) (hm : most < x) : cnt l most least = (0, 0, 32) := by unfold cnt; rw [h, if_neg (by simp), if_pos hm]
theorem cnt_short {l : List UInt8} {x wd : Nat} {most least : Int} (h : rd 0 0 l = (x, wd, 0)) (hm : ¬ most < x) (hq : ((l.length : Int) - wd) / max least 1 < x) : cnt l most least = (0, 0, 30) := by unfold cnt; rw [h, if_neg (by simp), if_neg hm, if_pos hq]
theorem cnt_ok {l : List UInt8} {x wd : Nat} {most least : Int} (h : rd 0 0 l = (x, wd, 0)) (hm : ¬ most < x) (hq : ¬ ((l.length : Int) - wd) / max least 1 < x) : cnt l most least = (x, wd, 0) := by unfold cnt; rw [h, if_neg (by simp), if_neg hm, if_neg hq]
theorem rd_fits {l : List UInt8} {x wd e : Nat} (h : rd 0 0 l = (x, wd, e)) : wd ≤ l.length ∧ x < 2 ^ 63 ∧ e ≤ 31 := by
  rcases rd_err l 0 0 with h0 | h0 | h0
  · rw [h] at h0
    simp only at h0
    subst h0
    obtain ⟨_, _, h1, h2⟩ := rd_one h
    exact ⟨h1, by have e : (128 : Nat) ^ 9 = 2 ^ 63 := by decide
                  omega, by omega⟩
  · rw [h] at h0
    simp only [Prod.mk.injEq] at h0
    omega
  · rw [h] at h0
    simp only [Prod.mk.injEq] at h0
    omega
set_option maxRecDepth 100000 in
set_option maxHeartbeats 1600000 in
theorem counted_any (bk : Nat) (s : ByteArray) (f most least : Int) (w : World) (h : RdAt bk s f w) (hs : s.size ≤ maxLen) :
    Calls Tryz.prog 103 #[ptr bk, .int .i64 most, .int .i64 least] w (Tri (cnt s.data.toList most least) w) := by
  have cN := number_any bk s f w h hs
  have cL := left_any bk s f w h hs
  obtain ⟨x, wd, er, hrd⟩ : ∃ x wd er, rd 0 0 s.data.toList = (x, wd, er) := ⟨_, _, _, rfl⟩
  obtain ⟨hw, hx, he⟩ := rd_fits hrd
  rw [← Lib.size_eq] at hw
  have HS := Lib.hid (Lib.size_eq s)
  rw [hrd] at cN
  have Hrd := Lib.hid hrd
  clear hrd h
  unfold maxLen at hs
  by_cases h0 : er = 0
  · subst h0
    by_cases hm : most < (x : Int)
    · have HF := Lib.hid (cnt_more (least := least) Hrd.out hm)
      go_enter Tryz.func103, Tryz.ntmps103
      go_wp2_with fail
      refine cN.mono ?_
      rintro e w1 ⟨rfl, rfl⟩
      go_wp2_with fail
      go_ret3
      exact ⟨by rw [HF.out]; rfl, rfl⟩
    · go_enter Tryz.func103, Tryz.ntmps103
      go_wp2_with fail
      refine cN.mono ?_
      rintro e w1 ⟨rfl, rfl⟩
      go_wp2_with fail
      refine cL.mono ?_
      rintro e w1 ⟨rfl, rfl⟩
      go_wp2_with fail
      all_goals
        go_ret3
        refine ⟨?_, rfl⟩
        have HX := HS.out
        have e0 : max least 1 = (if least < 1 then 1 else least) := by split <;> omega
        first
          | (have hq : ((s.data.toList.length : Int) - wd) / max least 1 < x := by
               rw [e0, ← HX]
               omega
             rw [cnt_short Hrd.out (by omega) hq]
             rfl)
          | (have hq : ¬ ((s.data.toList.length : Int) - wd) / max least 1 < x := by
               rw [e0, ← HX]
               omega
             rw [cnt_ok Hrd.out (by omega) hq]
             rfl)
  · have HF := Lib.hid (cnt_err (most := most) (least := least) Hrd.out h0)
    have hz : ¬ (er : Int) = 0 := by omega
    go_enter Tryz.func103, Tryz.ntmps103
    go_wp2_with fail
    refine cN.mono ?_
    rintro e w1 ⟨rfl, rfl⟩
    go_wp2_with fail
    go_ret3
    exact ⟨by rw [HF.out]; rfl, rfl⟩

/- New, Left, End -/
theorem new_any (s : ByteArray) (w : World) :
    Calls Tryz.prog 74 #[.string s] w fun r w' => r = .returned (ptr w.heap.size) ∧ RdAt w.heap.size s 0 w' ∧ Below w.heap.size w w' := by
  go_enter Tryz.func74, Tryz.ntmps74
  go_wp2
  go_ret
  refine ⟨rfl, ⟨World.cell?_alloc_at _ _ _ _ rfl, World.cell?_alloc_at _ _ _ _ rfl, World.frozen?_alloc_at _ _ _ _ rfl, World.frozen?_alloc_at _ _ _ _ rfl, by simp⟩, (Below.refl _ _).alloc (Nat.le_refl _) _⟩
theorem end_any (bk : Nat) (s : ByteArray) (f : Int) (w : World) (h : RdAt bk s f w) (hs : s.size ≤ maxLen) :
    Calls Tryz.prog 78 #[ptr bk] w fun e w' => e = .returned (.int .i64 (if f ≠ 0 then f else if s.data.toList = [] then 0 else 32)) ∧ w = w' := by
  have cL := left_any bk s f w h hs
  have HS := Lib.hid (Lib.size_eq s)
  obtain ⟨c0, c1, f0, f1, lt⟩ := h
  unfold maxLen at hs
  obtain ⟨E, hE⟩ : ∃ E, (if f ≠ 0 then f else if s.data.toList = [] then 0 else 32) = E := ⟨_, rfl⟩
  rw [hE]
  have HE := Lib.hid hE
  clear hE
  by_cases hf : f = 0
  · subst hf
    by_cases h0 : s.size = 0
    · have hz : ¬ (0 : Int) < s.size := by omega
      have HF := Lib.hid (show s.data.toList = [] from List.eq_nil_of_length_eq_zero (by rw [← HS.out]; exact h0))
      clear h0
      go_enter Tryz.func78, Tryz.ntmps78
      go_wp2_with fail
      refine cL.mono ?_
      rintro e w1 ⟨rfl, rfl⟩
      go_wp2
      go_ret
      exact ⟨by rw [← HE.out, if_neg (by simp), if_pos HF.out]; rfl, rfl⟩
    · have hz : (0 : Int) < s.size := by omega
      have HF := Lib.hid (show s.data.toList ≠ [] from fun e => h0 (by rw [HS.out, e]; rfl))
      clear h0
      go_enter Tryz.func78, Tryz.ntmps78
      go_wp2_with fail
      refine cL.mono ?_
      rintro e w1 ⟨rfl, rfl⟩
      go_wp2
      go_ret
      exact ⟨by rw [← HE.out, if_neg (by simp), if_neg HF.out]; rfl, rfl⟩
  · have hfb : (f != 0) = true := by simpa using hf
    go_enter Tryz.func78, Tryz.ntmps78
    go_wp2
    go_ret
    exact ⟨by rw [← HE.out, if_pos hf]; rfl, rfl⟩

/- Num, Count, Text, Flag -/
def RdPost (bk : Nat) (v : Value) (l : List UInt8) (f : Int) (w : World) (r : Ending) (w' : World) : Prop :=
  r = .returned v ∧ ∃ s : ByteArray, s.data.toList = l ∧ RdAt bk s f w' ∧ FP.Out (· = bk) w w'
theorem drop_data (s : ByteArray) (k : Nat) : (s.extract k s.size).data.toList = s.data.toList.drop k := by
  rw [Lib.extract_data, List.take_of_length_le]
  rw [List.length_drop, Lib.size_eq]
  omega
theorem take_data (s : ByteArray) (k : Nat) : (s.extract 0 k).data.toList = s.data.toList.take k := by
  rw [Lib.extract_data]
  simp
theorem num_stop (bk : Nat) (s : ByteArray) (f : Int) (w : World) (h : RdAt bk s f w) (hf : f ≠ 0) :
    Calls Tryz.prog 76 #[ptr bk] w (RdPost bk (.int .i64 0) s.data.toList f w) := by
  have cS := stopped_yes bk s f w h hf
  have H := Lib.hid h
  clear h
  go_enter Tryz.func76, Tryz.ntmps76
  go_wp2_with fail
  refine cS.mono ?_
  rintro e w1 ⟨rfl, rfl⟩
  go_wp2
  go_ret
  exact ⟨rfl, s, rfl, H.out, FP.Out.refl _ _⟩
theorem num_bad (bk : Nat) (s : ByteArray) (w : World) (e0 : Nat) (h : RdAt bk s 0 w) (hs : s.size ≤ maxLen) (hrd : rd 0 0 s.data.toList = (0, 0, e0)) (he : e0 ≠ 0) :
    Calls Tryz.prog 76 #[ptr bk] w (RdPost bk (.int .i64 0) s.data.toList e0 w) := by
  have cS := stopped_no bk s w h
  have cN := number_any bk s 0 w h hs
  have cF := fail_any bk s 0 e0 w h
  rw [hrd] at cN
  have hz : ((e0 : Int) != 0) = true := by simp; omega
  clear h hrd
  go_enter Tryz.func76, Tryz.ntmps76
  go_wp2_with fail
  refine cS.mono ?_
  rintro e w1 ⟨rfl, rfl⟩
  go_wp2_with fail
  refine cN.mono ?_
  rintro e w1 ⟨rfl, rfl⟩
  go_wp2_with fail
  refine cF.mono ?_
  rintro e w1 ⟨rfl, hr, hb⟩
  have HR := Lib.hid hr
  have HB := Lib.hid hb
  clear hr hb
  go_wp2
  go_ret
  exact ⟨rfl, s, rfl, HR.out, HB.out⟩
theorem num_ok (bk : Nat) (s : ByteArray) (w : World) (x wd : Nat) (h : RdAt bk s 0 w) (hs : s.size ≤ maxLen) (hrd : rd 0 0 s.data.toList = (x, wd, 0)) :
    Calls Tryz.prog 76 #[ptr bk] w (RdPost bk (.int .i64 x) (s.data.toList.drop wd) 0 w) := by
  have cS := stopped_no bk s w h
  have cN := number_any bk s 0 w h hs
  have cT := take_any bk wd s 0 w h hs (by rw [Lib.size_eq]; exact (rd_fits hrd).1)
  rw [hrd] at cN
  clear h hrd
  go_enter Tryz.func76, Tryz.ntmps76
  go_wp2_with fail
  refine cS.mono ?_
  rintro e w1 ⟨rfl, rfl⟩
  go_wp2_with fail
  refine cN.mono ?_
  rintro e w1 ⟨rfl, rfl⟩
  go_wp2_with fail
  refine cT.mono ?_
  rintro e w1 ⟨rfl, hr, hb⟩
  have HR := Lib.hid hr
  have HB := Lib.hid hb
  clear hr hb
  go_wp2
  go_ret
  exact ⟨rfl, _, drop_data s wd, HR.out, HB.out⟩
theorem count_stop (bk : Nat) (s : ByteArray) (f most least : Int) (w : World) (h : RdAt bk s f w) (hf : f ≠ 0) :
    Calls Tryz.prog 77 #[ptr bk, .int .i64 most, .int .i64 least] w (RdPost bk (.int .i64 0) s.data.toList f w) := by
  have cS := stopped_yes bk s f w h hf
  have H := Lib.hid h
  clear h
  go_enter Tryz.func77, Tryz.ntmps77
  go_wp2_with fail
  refine cS.mono ?_
  rintro e w1 ⟨rfl, rfl⟩
  go_wp2
  go_ret
  exact ⟨rfl, s, rfl, H.out, FP.Out.refl _ _⟩
theorem count_bad (bk : Nat) (s : ByteArray) (most least : Int) (w : World) (e0 : Nat) (h : RdAt bk s 0 w) (hs : s.size ≤ maxLen) (hrd : cnt s.data.toList most least = (0, 0, e0)) (he : e0 ≠ 0) :
    Calls Tryz.prog 77 #[ptr bk, .int .i64 most, .int .i64 least] w (RdPost bk (.int .i64 0) s.data.toList e0 w) := by
  have cS := stopped_no bk s w h
  have cN := counted_any bk s 0 most least w h hs
  have cF := fail_any bk s 0 e0 w h
  rw [hrd] at cN
  have hz : ((e0 : Int) != 0) = true := by simp; omega
  clear h hrd
  go_enter Tryz.func77, Tryz.ntmps77
  go_wp2_with fail
  refine cS.mono ?_
  rintro e w1 ⟨rfl, rfl⟩
  go_wp2_with fail
  refine cN.mono ?_
  rintro e w1 ⟨rfl, rfl⟩
  go_wp2_with fail
  refine cF.mono ?_
  rintro e w1 ⟨rfl, hr, hb⟩
  have HR := Lib.hid hr
  have HB := Lib.hid hb
  clear hr hb
  go_wp2
  go_ret
  exact ⟨rfl, s, rfl, HR.out, HB.out⟩
theorem cnt_is {l : List UInt8} {most least : Int} {x wd : Nat} (h : cnt l most least = (x, wd, 0)) : rd 0 0 l = (x, wd, 0) ∧ (x : Int) ≤ most ∧ (x : Int) ≤ ((l.length : Int) - wd) / max least 1 := by
  rcases cnt_cases l most least with ⟨h1, h2, h3, h4⟩ | ⟨e, h1, h2⟩
  · rw [h] at h1
    rw [← h1] at h3 h4
    exact ⟨h1.symm, h3, h4⟩
  · rw [h] at h1
    simp only [Prod.mk.injEq] at h1
    omega
theorem count_ok (bk : Nat) (s : ByteArray) (most least : Int) (w : World) (x wd : Nat) (h : RdAt bk s 0 w) (hs : s.size ≤ maxLen) (hrd : cnt s.data.toList most least = (x, wd, 0)) :
    Calls Tryz.prog 77 #[ptr bk, .int .i64 most, .int .i64 least] w (RdPost bk (.int .i64 x) (s.data.toList.drop wd) 0 w) := by
  have cS := stopped_no bk s w h
  have cN := counted_any bk s 0 most least w h hs
  have cT := take_any bk wd s 0 w h hs (by rw [Lib.size_eq]; exact (rd_fits (cnt_is hrd).1).1)
  rw [hrd] at cN
  clear h hrd
  go_enter Tryz.func77, Tryz.ntmps77
  go_wp2_with fail
  refine cS.mono ?_
  rintro e w1 ⟨rfl, rfl⟩
  go_wp2_with fail
  refine cN.mono ?_
  rintro e w1 ⟨rfl, rfl⟩
  go_wp2_with fail
  refine cT.mono ?_
  rintro e w1 ⟨rfl, hr, hb⟩
  have HR := Lib.hid hr
  have HB := Lib.hid hb
  clear hr hb
  go_wp2
  go_ret
  exact ⟨rfl, _, drop_data s wd, HR.out, HB.out⟩
def TxPost (bk : Nat) (t l : List UInt8) (f : Int) (w : World) (r : Ending) (w' : World) : Prop := ∃ u : ByteArray, u.data.toList = t ∧ RdPost bk (.string u) l f w r w'
theorem text_stop (bk : Nat) (s : ByteArray) (f most : Int) (w : World) (h : RdAt bk s f w) (hf : f ≠ 0) :
    Calls Tryz.prog 75 #[ptr bk, .int .i64 most] w (TxPost bk [] s.data.toList f w) := by
  have cS := stopped_yes bk s f w h hf
  have H := Lib.hid h
  clear h
  go_enter Tryz.func75, Tryz.ntmps75
  go_wp2_with fail
  refine cS.mono ?_
  rintro e w1 ⟨rfl, rfl⟩
  go_wp2
  go_ret
  exact ⟨_, rfl, rfl, s, rfl, H.out, FP.Out.refl _ _⟩
theorem text_bad (bk : Nat) (s : ByteArray) (most : Int) (w : World) (e0 : Nat) (h : RdAt bk s 0 w) (hs : s.size ≤ maxLen) (hrd : cnt s.data.toList most 1 = (0, 0, e0)) (he : e0 ≠ 0) :
    Calls Tryz.prog 75 #[ptr bk, .int .i64 most] w (TxPost bk [] s.data.toList e0 w) := by
  have cS := stopped_no bk s w h
  have cN := counted_any bk s 0 most 1 w h hs
  have cF := fail_any bk s 0 e0 w h
  rw [hrd] at cN
  have hz : ((e0 : Int) != 0) = true := by simp; omega
  clear h hrd
  go_enter Tryz.func75, Tryz.ntmps75
  go_wp2_with fail
  refine cS.mono ?_
  rintro e w1 ⟨rfl, rfl⟩
  go_wp2_with fail
  refine cN.mono ?_
  rintro e w1 ⟨rfl, rfl⟩
  go_wp2_with fail
  refine cF.mono ?_
  rintro e w1 ⟨rfl, hr, hb⟩
  have HR := Lib.hid hr
  have HB := Lib.hid hb
  clear hr hb
  go_wp2
  go_ret
  exact ⟨_, rfl, rfl, s, rfl, HR.out, HB.out⟩
theorem text_room {l : List UInt8} {most : Int} {x wd : Nat} (h : cnt l most 1 = (x, wd, 0)) : wd + x ≤ l.length := by
  obtain ⟨h1, _, h3⟩ := cnt_is h
  have hw := (rd_fits h1).1
  rw [show max (1 : Int) 1 = 1 from rfl, Int.ediv_one] at h3
  omega
theorem text_ok (bk : Nat) (s : ByteArray) (most : Int) (w : World) (x wd : Nat) (h : RdAt bk s 0 w) (hs : s.size ≤ maxLen) (hrd : cnt s.data.toList most 1 = (x, wd, 0)) :
    Calls Tryz.prog 75 #[ptr bk, .int .i64 most] w (TxPost bk ((s.data.toList.drop wd).take x) (s.data.toList.drop (wd + x)) 0 w) := by
  have hroom := text_room hrd
  rw [← Lib.size_eq] at hroom
  have cS := stopped_no bk s w h
  have cN := counted_any bk s 0 most 1 w h hs
  have cT := take_any bk wd s 0 w h hs (by omega)
  have hsz : (s.extract wd s.size).size = s.size - wd := by rw [ByteArray.size_extract]; omega
  have cT2 := fun W (h : RdAt bk (s.extract wd s.size) 0 W) => take_any bk x (s.extract wd s.size) 0 W h (by omega) (by omega)
  rw [hrd] at cN
  clear h hrd hsz
  go_enter Tryz.func75, Tryz.ntmps75
  go_wp2_with fail
  refine cS.mono ?_
  rintro e w1 ⟨rfl, rfl⟩
  go_wp2_with fail
  refine cN.mono ?_
  rintro e w1 ⟨rfl, rfl⟩
  go_wp2_with fail
  refine cT.mono ?_
  rintro e w1 ⟨rfl, hr, hb⟩
  have HR := Lib.hid hr
  have HB := Lib.hid hb
  clear hr hb
  go_wp2_with fail
  refine (cT2 _ HR.out).mono ?_
  rintro e w2 ⟨rfl, hr, hb⟩
  have HR2 := Lib.hid hr
  have HB2 := Lib.hid (HB.out.trans hb)
  clear hr hb
  go_wp2
  go_ret
  exact ⟨_, by rw [take_data, drop_data], rfl, _, by rw [drop_data, drop_data, List.drop_drop], HR2.out, HB2.out⟩
end CR
end Go.Proofs.YtiggdojppfblkaaGreatDoor
end

section
/- Layer 9: the reader's calls Num, Count, Text, End in one shape each, over lists. -/
namespace Go.Proofs.YtiggdojppfblkaaGreatDoor
open Go.RowKit Go.Lib
namespace CR
open CP AP

/-- A reader, by what is left and its fault. -/
def At (bk : Nat) (r : Rd) (w : World) : Prop := ∃ s : ByteArray, s.data.toList = r.1 ∧ RdAt bk s (r.2 : Nat) w
theorem At.out {bk : Nat} {S : Nat → Prop} {r : Rd} {w w' : World} (h : At bk r w) (hb : FP.Out S w w') (hS : ¬ S bk) : At bk r w' := by
  obtain ⟨s, h1, h2⟩ := h
  exact ⟨s, h1, h2.out hb hS⟩
theorem At.lt {bk : Nat} {r : Rd} {w : World} (h : At bk r w) : bk < w.heap.size := by
  obtain ⟨s, _, h2⟩ := h
  exact h2.lt
def NPost (bk : Nat) (a : Nat × Rd) (w : World) (r : Ending) (w' : World) : Prop := r = .returned (.int .i64 (a.1 : Nat)) ∧ At bk a.2 w' ∧ FP.Out (· = bk) w w'
def TPost (bk : Nat) (a : List UInt8 × Rd) (w : World) (r : Ending) (w' : World) : Prop := r = .returned (.string ⟨a.1.toArray⟩) ∧ At bk a.2 w' ∧ FP.Out (· = bk) w w'
theorem num_all (bk : Nat) (r : Rd) (w : World) (h : At bk r w) (hs : r.1.length ≤ maxLen) :
    Calls Tryz.prog 76 #[ptr bk] w (NPost bk (rNum r) w) := by
  obtain ⟨l, f⟩ := r
  obtain ⟨s, hl, h⟩ := h
  simp only [] at hl h hs
  subst hl
  have hs : s.size ≤ maxLen := by rw [Lib.size_eq]; exact hs
  by_cases hf : f = 0
  · subst hf
    by_cases he : (rd 0 0 s.data.toList).2.2 = 0
    · have hR : rNum (s.data.toList, 0) = ((rd 0 0 s.data.toList).1, s.data.toList.drop (rd 0 0 s.data.toList).2.1, 0) := by
        unfold rNum
        rw [if_neg (by simp), if_neg (by simp [he])]
      rw [hR]
      refine (num_ok bk s w (rd 0 0 s.data.toList).1 (rd 0 0 s.data.toList).2.1 h hs (Prod.ext rfl (Prod.ext rfl he))).mono ?_
      rintro r w' ⟨rfl, s', h1, h2, h3⟩
      exact ⟨rfl, ⟨s', h1, h2⟩, h3⟩
    · have hR : rNum (s.data.toList, 0) = (0, s.data.toList, (rd 0 0 s.data.toList).2.2) := by
        unfold rNum
        rw [if_neg (by simp), if_pos he]
      rw [hR]
      refine (num_bad bk s w (rd 0 0 s.data.toList).2.2 h hs ?_ he).mono ?_
      · rcases rd_err s.data.toList 0 0 with h0 | h0 | h0
        · exact absurd h0 he
        · rw [h0]
        · rw [h0]
      · rintro r w' ⟨rfl, s', h1, h2, h3⟩
        exact ⟨rfl, ⟨s', h1, h2⟩, h3⟩
  · have hR : rNum (s.data.toList, f) = (0, s.data.toList, f) := by
      unfold rNum
      rw [if_pos hf]
    rw [hR]
    refine (num_stop bk s f w h (by omega)).mono ?_
    rintro r w' ⟨rfl, s', h1, h2, h3⟩
    exact ⟨rfl, ⟨s', h1, h2⟩, h3⟩
theorem cnt_zero {l : List UInt8} {most least : Int} (h : (cnt l most least).2.2 ≠ 0) : cnt l most least = (0, 0, (cnt l most least).2.2) := by
  rcases cnt_cases l most least with ⟨h1, h2, _⟩ | ⟨e, h1, _⟩
  · rw [h1] at h
    exact absurd h2 h
  · rw [h1]
theorem count_all (bk : Nat) (most least : Int) (r : Rd) (w : World) (h : At bk r w) (hs : r.1.length ≤ maxLen) :
    Calls Tryz.prog 77 #[ptr bk, .int .i64 most, .int .i64 least] w (NPost bk (rCnt most least r) w) := by
  obtain ⟨l, f⟩ := r
  obtain ⟨s, hl, h⟩ := h
  simp only [] at hl h hs
  subst hl
  have hs : s.size ≤ maxLen := by rw [Lib.size_eq]; exact hs
  by_cases hf : f = 0
  · subst hf
    by_cases he : (cnt s.data.toList most least).2.2 = 0
    · have hR : rCnt most least (s.data.toList, 0) = ((cnt s.data.toList most least).1, s.data.toList.drop (cnt s.data.toList most least).2.1, 0) := by
        unfold rCnt
        rw [if_neg (by simp), if_neg (by simp [he])]
      rw [hR]
      refine (count_ok bk s most least w (cnt s.data.toList most least).1 (cnt s.data.toList most least).2.1 h hs (Prod.ext rfl (Prod.ext rfl he))).mono ?_
      rintro r w' ⟨rfl, s', h1, h2, h3⟩
      exact ⟨rfl, ⟨s', h1, h2⟩, h3⟩
    · have hR : rCnt most least (s.data.toList, 0) = (0, s.data.toList, (cnt s.data.toList most least).2.2) := by
        unfold rCnt
        rw [if_neg (by simp), if_pos he]
      rw [hR]
      refine (count_bad bk s most least w (cnt s.data.toList most least).2.2 h hs (cnt_zero he) he).mono ?_
      rintro r w' ⟨rfl, s', h1, h2, h3⟩
      exact ⟨rfl, ⟨s', h1, h2⟩, h3⟩
  · have hR : rCnt most least (s.data.toList, f) = (0, s.data.toList, f) := by
      unfold rCnt
      rw [if_pos hf]
    rw [hR]
    refine (count_stop bk s f most least w h (by omega)).mono ?_
    rintro r w' ⟨rfl, s', h1, h2, h3⟩
    exact ⟨rfl, ⟨s', h1, h2⟩, h3⟩
theorem bytes_of {u : ByteArray} {l : List UInt8} (h : u.data.toList = l) : u = ⟨l.toArray⟩ := by rw [← h]
theorem text_all (bk : Nat) (most : Int) (r : Rd) (w : World) (h : At bk r w) (hs : r.1.length ≤ maxLen) :
    Calls Tryz.prog 75 #[ptr bk, .int .i64 most] w (TPost bk (rTxt most r) w) := by
  obtain ⟨l, f⟩ := r
  obtain ⟨s, hl, h⟩ := h
  simp only [] at hl h hs
  subst hl
  have hs : s.size ≤ maxLen := by rw [Lib.size_eq]; exact hs
  by_cases hf : f = 0
  · subst hf
    by_cases he : (cnt s.data.toList most 1).2.2 = 0
    · have hR : rTxt most (s.data.toList, 0) = ((s.data.toList.drop (cnt s.data.toList most 1).2.1).take (cnt s.data.toList most 1).1, s.data.toList.drop ((cnt s.data.toList most 1).2.1 + (cnt s.data.toList most 1).1), 0) := by
        unfold rTxt
        rw [if_neg (by simp), if_neg (by simp [he])]
      rw [hR]
      refine (text_ok bk s most w (cnt s.data.toList most 1).1 (cnt s.data.toList most 1).2.1 h hs (Prod.ext rfl (Prod.ext rfl he))).mono ?_
      rintro r w' ⟨u, hu, rfl, s', h1, h2, h3⟩
      exact ⟨by rw [bytes_of hu], ⟨s', h1, h2⟩, h3⟩
    · have hR : rTxt most (s.data.toList, 0) = ([], s.data.toList, (cnt s.data.toList most 1).2.2) := by
        unfold rTxt
        rw [if_neg (by simp), if_pos he]
      rw [hR]
      refine (text_bad bk s most w (cnt s.data.toList most 1).2.2 h hs (cnt_zero he) he).mono ?_
      rintro r w' ⟨u, hu, rfl, s', h1, h2, h3⟩
      exact ⟨by rw [bytes_of hu], ⟨s', h1, h2⟩, h3⟩
  · have hR : rTxt most (s.data.toList, f) = ([], s.data.toList, f) := by
      unfold rTxt
      rw [if_pos hf]
    rw [hR]
    refine (text_stop bk s f most w h (by omega)).mono ?_
    rintro r w' ⟨u, hu, rfl, s', h1, h2, h3⟩
    exact ⟨by rw [bytes_of hu], ⟨s', h1, h2⟩, h3⟩
/-- What End tells. -/
def endR (r : Rd) : Nat := if r.2 ≠ 0 then r.2 else if r.1 = [] then 0 else 32
theorem end_all (bk : Nat) (r : Rd) (w : World) (h : At bk r w) (hs : r.1.length ≤ maxLen) :
    Calls Tryz.prog 78 #[ptr bk] w fun e w' => e = .returned (.int .i64 (endR r : Nat)) ∧ w = w' := by
  obtain ⟨l, f⟩ := r
  obtain ⟨s, hl, h⟩ := h
  simp only [] at hl h hs
  subst hl
  refine (end_any bk s f w h (by rw [Lib.size_eq]; exact hs)).mono ?_
  rintro e w' ⟨rfl, rfl⟩
  refine ⟨?_, rfl⟩
  unfold endR
  by_cases hf : f = 0
  · subst hf
    by_cases hl : s.data.toList = []
    · simp [hl]
    · simp [hl]
  · simp [hf]
theorem end_ok (r : Rd) : endR r = 0 ↔ r.2 = 0 ∧ r.1 = [] := by
  unfold endR
  by_cases hf : r.2 = 0
  · by_cases hl : r.1 = []
    · simp [hf, hl]
    · simp [hf, hl]
  · simp [hf]
/-- Less is left behind each call. -/
theorem num_left (r : Rd) : (rNum r).2.1.length ≤ r.1.length := by
  unfold rNum
  by_cases h1 : r.2 = 0
  · rw [if_neg (by simp [h1])]
    by_cases h2 : (rd 0 0 r.1).2.2 = 0
    · rw [if_neg (by simp [h2])]
      simp only [List.length_drop]
      omega
    · rw [if_pos h2]
      exact Nat.le_refl _
  · rw [if_pos h1]
    exact Nat.le_refl _
theorem cnt_left (most least : Int) (r : Rd) : (rCnt most least r).2.1.length ≤ r.1.length := by
  unfold rCnt
  by_cases h1 : r.2 = 0
  · rw [if_neg (by simp [h1])]
    by_cases h2 : (cnt r.1 most least).2.2 = 0
    · rw [if_neg (by simp [h2])]
      simp only [List.length_drop]
      omega
    · rw [if_pos h2]
      exact Nat.le_refl _
  · rw [if_pos h1]
    exact Nat.le_refl _
theorem txt_left (most : Int) (r : Rd) : (rTxt most r).2.1.length ≤ r.1.length := by
  unfold rTxt
  by_cases h1 : r.2 = 0
  · rw [if_neg (by simp [h1])]
    by_cases h2 : (cnt r.1 most 1).2.2 = 0
    · rw [if_neg (by simp [h2])]
      simp only [List.length_drop]
      omega
    · rw [if_pos h2]
      exact Nat.le_refl _
  · rw [if_pos h1]
    exact Nat.le_refl _
theorem node_left (r : Rd) : (rNode r).2.1.length ≤ r.1.length := by
  have a := txt_left 400 r
  have b := num_left (rTxt 400 r).2
  have c := num_left (rNum (rTxt 400 r).2).2
  have d := txt_left 64 (rNum (rNum (rTxt 400 r).2).2).2
  have e := num_left (rTxt 64 (rNum (rNum (rTxt 400 r).2).2).2).2
  have f := num_left (rNum (rTxt 64 (rNum (rNum (rTxt 400 r).2).2).2).2).2
  have g := num_left (rNum (rNum (rTxt 64 (rNum (rNum (rTxt 400 r).2).2).2).2).2).2
  unfold rNode
  simp only []
  omega
theorem nodes_left : ∀ (k : Nat) (r : Rd), (rNodes k r).2.2.1.length ≤ r.1.length
  | 0, r => Nat.le_refl _
  | k + 1, r => by
    have ih := nodes_left k r
    have := node_left (rNodes k r).2.2
    rw [rNodes]
    simp only []
    omega
theorem nodes_len : ∀ (k : Nat) (r : Rd), (rNodes k r).1.length = k ∧ (rNodes k r).2.1.length = k
  | 0, r => ⟨rfl, rfl⟩
  | k + 1, r => by
    obtain ⟨h1, h2⟩ := nodes_len k r
    rw [rNodes]
    simp only [List.length_append, List.length_singleton]
    omega
theorem cnt_most (most least : Int) (r : Rd) (h0 : 0 ≤ most) : ((rCnt most least r).1 : Int) ≤ most := by
  unfold rCnt
  by_cases h1 : r.2 = 0
  · rw [if_neg (by simp [h1])]
    by_cases h2 : (cnt r.1 most least).2.2 = 0
    · rw [if_neg (by simp [h2])]
      rcases cnt_cases r.1 most least with ⟨e, _, h3, _⟩ | ⟨e, h3, h4⟩
      · simp only [e]; exact h3
      · rw [h3] at h2
        simp only [] at h2
        omega
    · rw [if_pos h2]
      exact h0
  · rw [if_pos h1]
    exact h0
end CR
end Go.Proofs.YtiggdojppfblkaaGreatDoor
end

section
/- A region that draws its order: the first operations only read, and their values are the same in all worlds of a set that the others keep: they are taken first. The others come one behind the other; what stands behind them has one order, and need keep nothing. (General: no program's text.) -/
namespace Go.Proofs.YtiggdojppfblkaaGreatDoor
open Go
namespace QT
variable {P : Program} {ops : Array Oper} {md : Region.Mode} {Q : Exit → Act → World → Prop} {S : World → Prop}

def HeadS (P : Program) (md : Region.Mode) (ops : Array Oper) (Q : Exit → Act → World → Prop) (S : World → Prop) (n : Nat) (L : Array Bool → Act → World → Prop) : Nat → Array Bool → Act → World → Prop
  | 0, listed, a, w => L listed a w
  | f + 1, listed, a, w => Region.ready md ops listed ≠ [] ∧ ∀ i ∈ Region.ready md ops listed, i < n ∧ wpOp P ops Q i (fun a' w' => S w' ∧ HeadS P md ops Q S n L f (listed.setIfInBounds i true) a' w') a w

theorem any_of_headS {n g : Nat} {L : Array Bool → Act → World → Prop} (hL : ∀ listed a w, L listed a w → wpAny P md ops Q g listed a w) :
    ∀ (f : Nat) (listed : Array Bool) (a : Act) (w : World), HeadS P md ops Q S n L f listed a w → wpAny P md ops Q (f + g) listed a w := by
  intro f
  induction f with
  | zero => intro listed a w h; rw [Nat.zero_add]; exact hL _ _ _ h
  | succ f ih =>
    intro listed a w h
    rw [show f + 1 + g = (f + g) + 1 by omega]
    exact ⟨fun h0 => absurd h0 h.1, fun i hi => wpOp_mono (fun a' w' h' => ih _ a' w' h'.2) (h.2 i hi).2⟩

theorem headS_first {n i : Nat} {oi : Oper} {v : Value} {L : Array Bool → Act → World → Prop} (hi : ops[i]? = some oi) (hsel : ∀ (j : Nat) (o : Oper) cs b, ops[j]? = some o → o.op ≠ .select cs b)
    (hQ : ∀ c a w, Q (.panic c) (a.put oi.dst v) w → Q (.panic c) a w)
    (hs : Region.sinkB md ops n = true) (hc : Region.chainB md ops n = true) (hn : n < ops.size) (hin : i < n)
    (hdone : ∀ listed a w, L listed a w → ∀ j ∈ Region.ready md ops listed, n ≤ j) :
    ∀ (f : Nat) (listed : Array Bool) (a : Act) (w : World), HeadInv md ops n listed →
      (∀ j oj, ops[j]? = some oj → j ≠ i → listed.getD j true = false → (∀ e ∈ oj.after, Region.binds md e = true → e.on ≠ i) → oi.apart ops oj = true) →
      i ∈ Region.ready md ops listed → YieldsIf P ops S oi v a → S w →
      HeadS P md ops Q S n L f (listed.setIfInBounds i true) (a.put oi.dst v) w → HeadS P md ops Q S n L (f + 1) listed a w := by
  intro f
  induction f with
  | zero =>
    intro listed a w inv _ hr hy hS H
    have hun := (mem_ready.1 hr).1
    refine ⟨fun h => (by rw [h] at hr; cases hr), fun j hj => ?_⟩
    have hjn : j < n := Nat.lt_of_not_le fun h => tail_waits hs hc hn inv _ i rfl hin hun j h hj
    refine ⟨hjn, ?_⟩
    by_cases e : j = i
    · subst e; exact hy.wpOp hi hS ⟨hS, H⟩
    · have := hdone _ _ _ H j (ready_mono hj e)
      omega
  | succ f ih =>
    intro listed a w inv hfree hr hy hS H
    have hun := (mem_ready.1 hr).1
    refine ⟨fun h => (by rw [h] at hr; cases hr), fun j hj => ?_⟩
    have hjn : j < n := Nat.lt_of_not_le fun h => tail_waits hs hc hn inv _ i rfl hin hun j h hj
    refine ⟨hjn, ?_⟩
    by_cases e : j = i
    · subst e; exact hy.wpOp hi hS ⟨hS, H⟩
    · obtain ⟨hjun, oj, hoj, hall⟩ := mem_ready.1 hj
      have hnot : ∀ e ∈ oj.after, Region.binds md e = true → e.on ≠ i := fun e he hb heq => by
        have h1 := hall e he hb
        rw [heq, getD_both hun] at h1
        cases h1
      have h2 := wpOp_putIf hoj (hfree j oj hoj e hjun hnot) (fun cs b => hsel i oi cs b hi) (fun cs b => hsel j oj cs b hoj) hQ hy (H.2 j (ready_mono hj e)).2
      refine wpOp_mono (fun a' w' h3 => ⟨h3.2.1, ih _ a' w' (inv.set hj hjn) (fun k ok hk hki hku hno => ?_) (ready_mono hr (Ne.symm e)) h3.1 h3.2.1 ?_⟩) h2
      · refine hfree k ok hk hki ?_ hno
        by_cases hjk : j = k
        · subst hjk; exact hjun
        · rw [getD_set_ne true hjk] at hku; exact hku
      · rw [Array.setIfInBounds_comm _ _ e]
        exact h3.2.2

/-- The operations that only read, in the list's order. -/
def wpTake (P : Program) (ops : Array Oper) (S : World → Prop) (K : Act → Prop) : List Oper → Act → Prop
  | [], a => K a
  | o :: l, a => ∃ v, YieldsIf P ops S o v a ∧ wpTake P ops S K l (a.put o.dst v)
/-- The operations that do something, in the list's order: each keeps the set. -/
def wpDo (P : Program) (ops : Array Oper) (Q : Exit → Act → World → Prop) (S : World → Prop) (T : Act → World → Prop) : List Oper → Act → World → Prop
  | [], a, w => T a w
  | o :: l, a, w => ∀ K' : Act → World → Prop, Shut (∀ a w, S w → wpDo P ops Q S T l a w → K' a w) → if Region.wanted o (yielded ops a.tmps) = true then Oper.wp P o a w K' Q else K' (a.put o.dst undef) w

theorem wpTake_cons {K : Act → Prop} {o : Oper} {l : List Oper} {a : Act} (v : Value) (hw : Region.wanted o (yielded ops a.tmps) = true) (hv : ∀ w, S w → (execOp a.eval o).run P w = .ok (.value v) w) (h : wpTake P ops S K l (a.put o.dst v)) : wpTake P ops S K (o :: l) a :=
  ⟨v, .inl ⟨hw, hv⟩, h⟩
theorem wpTake_nil {K : Act → Prop} {a : Act} (h : K a) : wpTake P ops S K [] a := h
theorem wpDo_nil {T : Act → World → Prop} {a : Act} {w : World} (h : T a w) : wpDo P ops Q S T [] a w := h

theorem headS_do {n : Nat} {T : Act → World → Prop} : ∀ (l : List Oper) (g k : Nat) (listed : Array Bool) (a : Act) (w : World), (∀ j, j < l.length → l[j]? = ops[k + j]?) → k + l.length = n →
    Region.seqB md ops (l.length + g) k listed = true → wpDo P ops Q S T l a w →
    HeadS P md ops Q S n (fun listed' a' w' => Region.seqB md ops g n listed' = true ∧ T a' w') l.length listed a w := by
  intro l
  induction l with
  | nil =>
    intro g k listed a w _ hk hB h
    obtain rfl : k = n := by simpa using hk
    exact ⟨by simpa using hB, h⟩
  | cons o l ih =>
    intro g k listed a w hl hk hB h
    have h0 : ops[k]? = some o := by simpa using (hl 0 (by simp)).symm
    rw [show (o :: l).length + g = (l.length + g) + 1 by simp only [List.length_cons]; omega] at hB
    simp only [Region.seqB, Bool.and_eq_true, decide_eq_true_eq] at hB
    have hkn : k < n := by simp only [List.length_cons] at hk; omega
    refine ⟨fun e => (by rw [hB.1] at e; cases e), fun i hi => ?_⟩
    rw [hB.1] at hi
    obtain rfl : i = k := by simpa using hi
    refine ⟨hkn, wpOp_step h0 (fun K' hK => h K' (fun a' w' hS hd => hK a' w' ⟨hS, ?_⟩))⟩
    exact ih g (i + 1) _ a' w' (fun j hj => by have := hl (j + 1) (by simp; omega); simpa [Nat.add_assoc, Nat.add_comm 1 j] using this) (by simp only [List.length_cons] at hk; omega) hB.2 hd

theorem headS_take {n g : Nat} {T : Act → World → Prop} {e : List Oper} (hsel : Region.noSelect ops = true) (hs : Region.sinkB md ops n = true) (hc : Region.chainB md ops n = true) (hn : n < ops.size)
    (hQ : ∀ c a d v w, Q (.panic c) (Act.put a d v) w → Q (.panic c) a w) (w : World) (hS : S w) :
    ∀ (l : List Oper) (k : Nat) (listed : Array Bool) (a : Act), (∀ j, j < l.length → l[j]? = ops[k + j]?) → (∀ j, j < e.length → e[j]? = ops[k + l.length + j]?) → k + l.length + e.length = n → HeadInv md ops n listed →
    Region.lexHead md ops (e.length + g) l.length k listed = true → wpTake P ops S (fun a' => wpDo P ops Q S T e a' w) l a →
    HeadS P md ops Q S n (fun listed' a' w' => Region.seqB md ops g n listed' = true ∧ T a' w') (l.length + e.length) listed a w := by
  intro l
  induction l with
  | nil =>
    intro k listed a _ he hk _ hB h
    rw [show ([] : List Oper).length + e.length = e.length by simp]
    exact headS_do e g k listed a w (fun j hj => by simpa using he j hj) (by simpa using hk) (by simpa [Region.lexHead] using hB) h
  | cons o l ih =>
    intro k listed a hl he hk inv hB h
    have h0 : ops[k]? = some o := by simpa using (hl 0 (by simp)).symm
    simp only [List.length_cons, Region.lexHead, Bool.and_eq_true] at hB
    have hkn : k < n := by simp only [List.length_cons] at hk; omega
    have hr : k ∈ Region.ready md ops listed := by simpa using hB.1.1
    obtain ⟨v, hy, hK⟩ := h
    rw [show (o :: l).length + e.length = (l.length + e.length) + 1 by simp only [List.length_cons]; omega]
    refine headS_first h0 (Region.noSelect_spec hsel) (fun c a w h => hQ c a _ _ w h) hs hc hn hkn (fun listed' a' w' hL => seqB_ready hL.1) (l.length + e.length) listed a w inv (Region.free_spec h0 hB.1.2) hr hy hS ?_
    exact ih (k + 1) _ _ (fun j hj => by have := hl (j + 1) (by simp; omega); simpa [Nat.add_assoc, Nat.add_comm 1 j] using this) (fun j hj => by have := he j hj; rw [this]; congr 1; simp only [List.length_cons]; omega) (by simp only [List.length_cons] at hk; omega) (inv.set hr hkn) hB.2 hK

def holdB (ops : Array Oper) (m n : Nat) : Bool :=
  Region.noSelect ops && decide (m ≤ n) && decide (n < ops.size) && Region.sinkB .any ops n && Region.chainB .any ops n && Region.lexHead .any ops (ops.size - m) m 0 (Array.replicate ops.size false)

/-- The first m operations read: their values are those of every world of S. Those up to n are done one behind the other, and keep S. What stands behind them is walked as a list. -/
theorem region_hold {id : Nat} {a : Act} {w : World} {l : List Oper} (m n : Nat) (hm : P.follows .mixedOrders = true) (hB : holdB l.toArray m n = true)
    (hQ : ∀ c a d v w, Q (.panic c) (Act.put a d v) w → Q (.panic c) a w) (hS : S w.drew)
    (h : S w.drew → wpTake P l.toArray S (fun a' => wpDo P l.toArray Q S (fun a'' w'' => wpList P l.toArray Q (l.drop n) a'' w'') ((l.take n).drop m) a' w.drew) (l.take m) a) : (Code.region id l.toArray true).wp P Q a w := by
  simp only [holdB, Bool.and_eq_true, decide_eq_true_eq] at hB
  obtain ⟨⟨⟨⟨⟨hsel, hmn⟩, hn⟩, hs⟩, hc⟩, hlex⟩ := hB
  have hn' : n < l.length := by simpa using hn
  have htl : (l.take m).length = m := by simp; omega
  have hel : ((l.take n).drop m).length = n - m := by simp; omega
  have hdl : (l.drop n).length = l.toArray.size - n := by simp
  have inv0 : HeadInv .any l.toArray n (Array.replicate l.toArray.size false) :=
    ⟨by simp, fun j oj _ hl => (by rw [getD_replicate_false] at hl; cases hl), fun t _ ht => getD_in (by simpa using ht) (getD_replicate_false _ _)⟩
  have H := headS_take (md := .any) (g := l.toArray.size - n) (T := fun a'' w'' => wpList P l.toArray Q (l.drop n) a'' w'') (e := (l.take n).drop m) hsel hs hc hn hQ w.drew hS (l.take m) 0 _ a (fun j hj => by
    rw [htl] at hj
    simp [hj]) (fun j hj => by
    rw [hel] at hj
    rw [htl, List.getElem?_drop, List.getElem?_take, if_pos (by omega)]
    simp) (by rw [htl, hel]; omega) inv0 (by rw [htl, hel, show n - m + (l.toArray.size - n) = l.toArray.size - m by omega]; exact hlex) (h hS)
  refine wp_region_any hm ?_
  have := any_of_headS (Q := Q) (g := l.toArray.size - n) (fun listed a' w' hL => by
    have := wpAny_of_seq (md := .any) (Q' := Q) (l.drop n) n listed a' w' (fun j => by simp [List.getElem?_drop]) (by rw [hdl]; exact hL.1) hL.2
    rwa [hdl] at this) _ _ _ _ H
  rw [htl, hel, show m + (n - m) + (l.toArray.size - n) = l.toArray.size by omega] at this
  exact this
end QT
end Go.Proofs.YtiggdojppfblkaaGreatDoor
end

section
/- A region that draws its order: the operations that read are taken first, wherever they stand in the list; the others come one behind the other, and keep what is read; what stands behind them has one order. (General: no program's text.) -/
namespace Go.Proofs.YtiggdojppfblkaaGreatDoor
open Go
namespace QT
variable {P : Program} {ops : Array Oper} {md : Region.Mode} {Q : Exit → Act → World → Prop} {S : World → Prop}

def pick (l : List Oper) (ps : List Nat) : List Oper := ps.filterMap fun i => l[i]?
def permE (md : Region.Mode) (ops : Array Oper) (g n : Nat) : List Nat → Array Bool → Bool
  | i :: es, listed => decide (Region.ready md ops listed = [i]) && decide (i < n) && decide (i < ops.size) && permE md ops g n es (listed.setIfInBounds i true)
  | [], listed => Region.seqB md ops g n listed
def permB (md : Region.Mode) (ops : Array Oper) (g n : Nat) (es : List Nat) : List Nat → Array Bool → Bool
  | i :: ps, listed => (Region.ready md ops listed).contains i && Region.free md ops listed i && decide (i < n) && permB md ops g n es ps (listed.setIfInBounds i true)
  | [], listed => permE md ops g n es listed

theorem pick_cons {l : List Oper} {i : Nat} {o : Oper} {ps : List Nat} (h : l[i]? = some o) : pick l (i :: ps) = o :: pick l ps := by
  unfold pick
  rw [List.filterMap_cons, h]
theorem headS_es {l : List Oper} {n g : Nat} {T : Act → World → Prop} : ∀ (es : List Nat) (listed : Array Bool) (a : Act) (w : World),
    permE md l.toArray g n es listed = true → wpDo P l.toArray Q S T (pick l es) a w →
    HeadS P md l.toArray Q S n (fun listed' a' w' => Region.seqB md l.toArray g n listed' = true ∧ T a' w') es.length listed a w := by
  intro es
  induction es with
  | nil => intro listed a w hB h; exact ⟨by simpa only [permE] using hB, h⟩
  | cons i es ih =>
    intro listed a w hB h
    simp only [permE, Bool.and_eq_true, decide_eq_true_eq] at hB
    obtain ⟨⟨⟨h1, h2⟩, h3⟩, h4⟩ := hB
    have hl : i < l.length := by simpa using h3
    have h0 : l[i]? = some l[i] := List.getElem?_eq_getElem hl
    rw [pick_cons h0] at h
    refine ⟨fun e => (by rw [h1] at e; cases e), fun j hj => ?_⟩
    rw [h1] at hj
    obtain rfl : j = i := by simpa using hj
    refine ⟨h2, wpOp_step (o := l[j]) (by simp) (fun K' hK => h K' (fun a' w' hS hd => hK a' w' ⟨hS, ih _ a' w' h4 hd⟩))⟩
theorem headS_ps {l : List Oper} {n g : Nat} {T : Act → World → Prop} {es : List Nat} (hsel : Region.noSelect l.toArray = true) (hs : Region.sinkB md l.toArray n = true) (hc : Region.chainB md l.toArray n = true) (hn : n < l.toArray.size)
    (hQ : ∀ c a d v w, Q (.panic c) (Act.put a d v) w → Q (.panic c) a w) (w : World) (hS : S w) :
    ∀ (ps : List Nat) (listed : Array Bool) (a : Act), HeadInv md l.toArray n listed → permB md l.toArray g n es ps listed = true →
    wpTake P l.toArray S (fun a' => wpDo P l.toArray Q S T (pick l es) a' w) (pick l ps) a →
    HeadS P md l.toArray Q S n (fun listed' a' w' => Region.seqB md l.toArray g n listed' = true ∧ T a' w') (ps.length + es.length) listed a w := by
  intro ps
  induction ps with
  | nil =>
    intro listed a _ hB h
    rw [show ([] : List Nat).length + es.length = es.length by simp]
    exact headS_es es listed a w hB h
  | cons i ps ih =>
    intro listed a inv hB h
    simp only [permB, Bool.and_eq_true, decide_eq_true_eq] at hB
    obtain ⟨⟨⟨h1, h2⟩, h3⟩, h4⟩ := hB
    have hr : i ∈ Region.ready md l.toArray listed := by simpa using h1
    obtain ⟨o, h0⟩ : ∃ o, l.toArray[i]? = some o := ⟨l.toArray[i]'(by omega), Array.getElem?_eq_getElem (by omega)⟩
    have h0' : l[i]? = some o := by simpa using h0
    rw [pick_cons h0'] at h
    obtain ⟨v, hy, hK⟩ := h
    rw [show (i :: ps).length + es.length = (ps.length + es.length) + 1 by simp only [List.length_cons]; omega]
    refine headS_first h0 (Region.noSelect_spec hsel) (fun c a w h => hQ c a _ _ w h) hs hc hn h3 (fun listed' a' w' hL => seqB_ready hL.1) (ps.length + es.length) listed a w inv (Region.free_spec h0 h2) hr hy hS ?_
    exact ih _ _ (inv.set hr h3) h4 hK
def pickB (ops : Array Oper) (ps es : List Nat) (n : Nat) : Bool :=
  Region.noSelect ops && decide (n < ops.size) && decide (ps.length + es.length = n) && Region.sinkB .any ops n && Region.chainB .any ops n && permB .any ops (ops.size - n) n es ps (Array.replicate ops.size false)
theorem region_pick {id : Nat} {a : Act} {w : World} {l : List Oper} (ps es : List Nat) (n : Nat) (hm : P.follows .mixedOrders = true) (hB : pickB l.toArray ps es n = true)
    (hQ : ∀ c a d v w, Q (.panic c) (Act.put a d v) w → Q (.panic c) a w) (hS : S w.drew)
    (h : S w.drew → wpTake P l.toArray S (fun a' => wpDo P l.toArray Q S (fun a'' w'' => wpList P l.toArray Q (l.drop n) a'' w'') (pick l es) a' w.drew) (pick l ps) a) : (Code.region id l.toArray true).wp P Q a w := by
  simp only [pickB, Bool.and_eq_true, decide_eq_true_eq] at hB
  obtain ⟨⟨⟨⟨⟨hsel, hn⟩, hlen⟩, hs⟩, hc⟩, hperm⟩ := hB
  have hn' : n < l.length := by simpa using hn
  have hdl : (l.drop n).length = l.toArray.size - n := by simp
  have inv0 : HeadInv .any l.toArray n (Array.replicate l.toArray.size false) :=
    ⟨by simp, fun j oj _ hl => (by rw [getD_replicate_false] at hl; cases hl), fun t _ ht => getD_in (by simpa using ht) (getD_replicate_false _ _)⟩
  have H := headS_ps (md := .any) (g := l.toArray.size - n) (T := fun a'' w'' => wpList P l.toArray Q (l.drop n) a'' w'') (es := es) hsel hs hc hn hQ w.drew hS ps _ a inv0 hperm (h hS)
  refine wp_region_any hm ?_
  have := any_of_headS (Q := Q) (g := l.toArray.size - n) (fun listed a' w' hL => by
    have := wpAny_of_seq (md := .any) (Q' := Q) (l.drop n) n listed a' w' (fun j => by simp [List.getElem?_drop]) (by rw [hdl]; exact hL.1) hL.2
    rwa [hdl] at this) _ _ _ _ H
  rw [hlen, show n + (l.toArray.size - n) = l.toArray.size by omega] at this
  exact this
end QT
end Go.Proofs.YtiggdojppfblkaaGreatDoor
end

section
/- Layer 9: what a round of the program's read does to memory. -/
namespace Go.Proofs.YtiggdojppfblkaaGreatDoor
open Go.RowKit Go.Lib
namespace AD
open OM TP TM TR AP AR FP
open CR (At ptr NPost TPost num_all text_all count_all end_all endR)

theorem step_app_eq {P : Program} {w : World} {ops : Array Oper} {o : Oper} {a : Act} {K : Act → World → Prop} {Q : Exit → Act → World → Prop} {E : Prop} (hgd : o.guard = none) (s x : Operand) (t t2 : TypeId)
    (ho : o.op = .call { callee := .builtin .append, args := #[s, x], argTypes := #[t, t2] }) (u v : Value) (hs : a.eval s = u) (hx : a.eval x = v) {v' : Value} {w' : World}
    (hr : (Builtin.append_ #[t, t2] o.type #[u, v]).run P w = .ok v' w') (h : K (a.put o.dst v') w') : if Region.wanted o (yielded ops a.tmps) = true then Oper.wp P o a w K Q else E := by
  have hw : Region.wanted o (yielded ops a.tmps) = true := by simp [Region.wanted, hgd]
  rw [if_pos hw]
  unfold Oper.wp execOp
  simp only [ho, resolve, invoke, builtin, Sem.run_bind, Sem.run_pure, Result.andThen_ok, List.map_toArray, List.map_cons, List.map_nil, hs, hx, hr]
  exact h
theorem row_set {W : World} {g j : Nat} {cur : Array Value} {t : TypeId} {fr : Nat × Nat} (h : W.heap[g]? = some (.cells cur t fr)) (u : Value) : (W.setCell ⟨g, j, none⟩ u).heap[g]? = some (.cells (cur.setIfInBounds j u) t fr) := by
  simp [World.setCell, Array.getElem?_modify, h]
theorem kinds_apart {W : World} {b1 b2 s1 s2 n1 n2 : Nat} {e1 e2 : TypeId} {v1 v2 : Value} {x1 x2 : List Value} (h1 : W.ownsRow b1 e1 s1 v1 n1 x1) (h2 : W.ownsRow b2 e2 s2 v2 n2 x2) (hne : e1 ≠ e2) : ∀ g, v2.ownBlock = some g → ¬ v1.ownBlock = some g := fun g hg2 hg1 => by
  obtain ⟨c1, f1, e⟩ := owns_kind h1 g hg1
  obtain ⟨c2, f2, e'⟩ := owns_kind h2 g hg2
  rw [e] at e'
  injection e' with e'
  injection e' with _ e3
  exact hne e3
theorem infoM : (Tryz.prog.info? 67).map (fun i => (i.zero, i.size, i.bytes)) = some (some (.agg #[.int .i64 0, .int .i64 0, .int .i64 0]), 3, 24) := by kernel_rfl
theorem three_new (W : World) (s : Sm) (t : TypeId) : ∀ (j : Nat) (u : Value), (smCells s)[j]? = some u → (W.alloc (.cells #[.int .i64 s.ino, .int .i64 s.size, .int .i64 s.time] t)).cell? ((⟨W.heap.size, 0, none⟩ : Addr).add j) = some u := by
  intro j u hj
  have h := heap_alloc_new W (.cells #[.int .i64 s.ino, .int .i64 s.size, .int .i64 s.time] t)
  have hadd : (⟨W.heap.size, 0, none⟩ : Addr).add j = ⟨W.heap.size, j, none⟩ := by unfold Addr.add; split <;> simp_all
  have e : (#[Value.int .i64 s.ino, Value.int .i64 s.size, Value.int .i64 s.time] : Array Value) = (smCells s).toArray := rfl
  rw [hadd, cell_of_row _ _ j _ _ _ h, e, List.getElem?_toArray]
  exact hj
theorem sm_one (s : Sm) : ∀ u ∈ smCells s, u.oneCell' = true := by
  intro u hu
  unfold smCells at hu
  simp at hu
  rcases hu with rfl | rfl | rfl <;> rfl
/-- A list of nodes with one more. -/
theorem node_step {W : World} {ts : List Nd} {n : Nd} {base m : Nat} {u : Value} {X D : ByteArray} (h : W.ownsRow base 25 4 u m (nodesC ts)) (hX : txt n.path = .string X) (hD : txt n.data = .string D) (hl : m ≤ 1000) (hb : base ≤ W.heap.size) :
    ∃ a' c' W3, (Builtin.append_ #[22, 22] 22 #[u, .slice (some ⟨W.heap.size, 0, none⟩) 1 1]).run Tryz.prog (W.alloc (.cells #[.string X, .int .i64 n.kind, .string D, .int .i64 n.mode] 25)) = .ok (.slice a' (m + 1) c') W3 ∧ W3.ownsRow base 25 4 (.slice a' (m + 1) c') (m + 1) (nodesC (ts ++ [n])) ∧ Out (fun k => u.ownBlock = some k) W W3 := by
  obtain ⟨i0, hi, hz0, hz1, hz2⟩ := info_parts infoN
  have o2 := World.ownsRow.alloc h (.cells #[.string X, .int .i64 n.kind, .string D, .int .i64 n.mode] 25)
  have hnew := four_new W W.heap.size rfl n (.string X) (.string D) hX hD 25
  obtain ⟨v', W3, hr, ho, hg, _⟩ := run_append_own (P := Tryz.prog) (w := W.alloc (.cells #[.string X, .int .i64 n.kind, .string D, .int .i64 n.mode] 25)) base 22 22 25 i0 (ndVal zeroN) 4 48 Tryz.underlying22 hi hz0 hz1 hz2 rfl (by decide) u m _ o2 ⟨W.heap.size, 0, none⟩ 1 1
    (ndCells n) rfl hnew (nd_one n) (by unfold maxLen; omega) (by omega) (by rw [World.size_alloc]; omega)
  obtain ⟨a', c', hv', _⟩ := owns_view ho
  subst hv'
  refine ⟨a', c', W3, hr, ?_, ((Out.refl _ W).alloc _).grown hg (fun j hj _ => hj)⟩
  rw [nodes_snoc]
  exact ho
theorem stamp_step {W : World} {us : List Sm} {s : Sm} {base m : Nat} {u : Value} (h : W.ownsRow base 67 3 u m (smsC us)) (hl : m ≤ 1000) (hb : base ≤ W.heap.size) :
    ∃ a' c' W3, (Builtin.append_ #[33, 33] 33 #[u, .slice (some ⟨W.heap.size, 0, none⟩) 1 1]).run Tryz.prog (W.alloc (.cells #[.int .i64 s.ino, .int .i64 s.size, .int .i64 s.time] 67)) = .ok (.slice a' (m + 1) c') W3 ∧ W3.ownsRow base 67 3 (.slice a' (m + 1) c') (m + 1) (smsC (us ++ [s])) ∧ Out (fun k => u.ownBlock = some k) W W3 := by
  obtain ⟨i0, hi, hz0, hz1, hz2⟩ := info_parts infoM
  have o2 := World.ownsRow.alloc h (.cells #[.int .i64 s.ino, .int .i64 s.size, .int .i64 s.time] 67)
  have hnew := three_new W s 67
  obtain ⟨v', W3, hr, ho, hg, _⟩ := run_append_own (P := Tryz.prog) (w := W.alloc (.cells #[.int .i64 s.ino, .int .i64 s.size, .int .i64 s.time] 67)) base 33 33 67 i0 (.agg #[.int .i64 0, .int .i64 0, .int .i64 0]) 3 24 Tryz.underlying33 hi hz0 hz1 hz2 rfl (by decide) u m _ o2 ⟨W.heap.size, 0, none⟩ 1 1
    (smCells s) rfl hnew (sm_one s) (by unfold maxLen; omega) (by omega) (by rw [World.size_alloc]; omega)
  obtain ⟨a', c', hv', _⟩ := owns_view ho
  subst hv'
  refine ⟨a', c', W3, hr, ?_, ((Out.refl _ W).alloc _).grown hg (fun j hj _ => hj)⟩
  rw [sms_snoc]
  exact ho
/-- What is being read: the reader, the archive's box, the answer's box, both lists. -/
structure RIn (w : World) (B rb ab rs : Nat) (ca cr : Array Value) (r : Rd) (n m : Nat) (ts : List Nd) (us : List Sm) (vt vs : Value) (wr : World) : Prop where
  rd : At rb r wr
  row : wr.heap[ab]? = some (.cells (ca ++ #[vt, vs]) 35 (0, 0))
  res : wr.heap[rs]? = some (.cells cr 35 (0, 0))
  nds : wr.ownsRow B 25 4 vt n (nodesC ts)
  sms : wr.ownsRow B 67 3 vs m (smsC us)
  below : Below w.heap.size w wr
  big : B ≤ wr.heap.size
  rbB : rb < B
  abB : ab < B
  rsB : rs < B
  rbw : w.heap.size ≤ rb
  abw : w.heap.size ≤ ab
  a1 : ab ≠ rb
  a2 : rs ≠ rb
  a3 : rs ≠ ab
  two : ca.size = 2
/-- The reader has read. -/
theorem RIn.turn {w : World} {B rb ab rs : Nat} {ca cr : Array Value} {r r' : Rd} {n m : Nat} {ts : List Nd} {us : List Sm} {vt vs : Value} {wr W : World} (h : RIn w B rb ab rs ca cr r n m ts us vt vs wr) (hr : At rb r' W) (hb : Out (· = rb) wr W) : RIn w B rb ab rs ca cr r' n m ts us vt vs W := by
  obtain ⟨h1, h2, h3, h4, h5, h6, h7, h8, h9, h10, h11, h12, h13, h14, h15, h16⟩ := h
  exact ⟨hr, hb.row h2 h13, hb.row h3 h14, hb.owns h4 (fun g hg e => by have := (h4.lt g hg).1; omega), hb.owns h5 (fun g hg e => by have := (h5.lt g hg).1; omega),
    ((Out.of_below h6).then hb (fun j hj e => by omega)).below (fun j hj _ hn => by omega) (Nat.le_refl _), Nat.le_trans h7 hb.size, h8, h9, h10, h11, h12, h13, h14, h15, h16⟩
theorem RIn.thenBelow {w : World} {B rb ab rs : Nat} {ca cr : Array Value} {r : Rd} {n m : Nat} {ts : List Nd} {us : List Sm} {vt vs : Value} {wr W : World} (h : RIn w B rb ab rs ca cr r n m ts us vt vs wr) (hb : Below wr.heap.size wr W) : RIn w B rb ab rs ca cr r n m ts us vt vs W := by
  obtain ⟨h1, h2, h3, h4, h5, h6, h7, h8, h9, h10, h11, h12, h13, h14, h15, h16⟩ := h
  have ho : Out (fun k => wr.heap.size ≤ k) wr W := Out.of_below hb
  exact ⟨h1.out ho (fun e => by have := h1.lt; omega), ho.row h2 (fun e => by have := (Array.getElem?_eq_some_iff.1 h2).1; omega), ho.row h3 (fun e => by have := (Array.getElem?_eq_some_iff.1 h3).1; omega), owns_below h4 hb, owns_below h5 hb, h6.trans (hb.mono h6.size), Nat.le_trans h7 hb.size, h8, h9, h10, h11, h12, h13, h14, h15, h16⟩
/-- A node more. -/
theorem RIn.node {w : World} {B rb ab rs : Nat} {ca cr : Array Value} {r : Rd} {n m : Nat} {ts ts' : List Nd} {us : List Sm} {vt vs vt' : Value} {n' : Nat} {wr W : World} (h : RIn w B rb ab rs ca cr r n m ts us vt vs wr) (ho : W.ownsRow B 25 4 vt' n' (nodesC ts')) (hb : Out (fun k => vt.ownBlock = some k) wr W) :
    RIn w B rb ab rs ca cr r n' m ts' us vt' vs (W.setCell ⟨ab, 2, none⟩ vt') := by
  obtain ⟨h1, h2, h3, h4, h5, h6, h7, h8, h9, h10, h11, h12, h13, h14, h15, h16⟩ := h
  have hB : ∀ g, vt.ownBlock = some g → B ≤ g := fun g hg => (h4.lt g hg).1
  have hw : w.heap.size ≤ B := by omega
  have s1 : Out (· = ab) W (W.setCell ⟨ab, 2, none⟩ vt') := (Out.refl (· = ab) W).setCell (p := ⟨ab, 2, none⟩) (fun _ => rfl) _
  have r1 := hb.row h2 (fun e => by have := hB _ e; omega)
  refine ⟨(h1.out hb (fun e => by have := hB _ e; omega)).out s1 (fun e => h13 e.symm), ?_, s1.row (hb.row h3 (fun e => by have := hB _ e; omega)) h15, s1.owns ho (fun g hg e => by have := (ho.lt g hg).1; omega), ?_, ?_, ?_, h8, h9, h10, h11, h12, h13, h14, h15, h16⟩
  · have := row_set (j := 2) r1 vt'
    rw [this]
    congr 2
    match ca, h16 with
    | ⟨[x, y]⟩, _ => rfl
  · have o5 := hb.owns h5 (kinds_apart h4 h5 (by decide))
    exact s1.owns o5 (fun g hg e => by have := (o5.lt g hg).1; omega)
  · exact (((Out.of_below h6).then hb (fun j hj e => by have := hB _ e; omega)).then s1 (fun j hj e => by omega)).below (fun j hj _ hn => by omega) (Nat.le_refl _)
  · have := hb.size
    simp [World.setCell]
    omega
theorem RIn.stamp {w : World} {B rb ab rs : Nat} {ca cr : Array Value} {r : Rd} {n m : Nat} {ts : List Nd} {us us' : List Sm} {vt vs vs' : Value} {m' : Nat} {wr W : World} (h : RIn w B rb ab rs ca cr r n m ts us vt vs wr) (ho : W.ownsRow B 67 3 vs' m' (smsC us')) (hb : Out (fun k => vs.ownBlock = some k) wr W) :
    RIn w B rb ab rs ca cr r n m' ts us' vt vs' (W.setCell ⟨ab, 3, none⟩ vs') := by
  obtain ⟨h1, h2, h3, h4, h5, h6, h7, h8, h9, h10, h11, h12, h13, h14, h15, h16⟩ := h
  have hB : ∀ g, vs.ownBlock = some g → B ≤ g := fun g hg => (h5.lt g hg).1
  have hw : w.heap.size ≤ B := by omega
  have s1 : Out (· = ab) W (W.setCell ⟨ab, 3, none⟩ vs') := (Out.refl (· = ab) W).setCell (p := ⟨ab, 3, none⟩) (fun _ => rfl) _
  have r1 := hb.row h2 (fun e => by have := hB _ e; omega)
  refine ⟨(h1.out hb (fun e => by have := hB _ e; omega)).out s1 (fun e => h13 e.symm), ?_, s1.row (hb.row h3 (fun e => by have := hB _ e; omega)) h15, ?_, s1.owns ho (fun g hg e => by have := (ho.lt g hg).1; omega), ?_, ?_, h8, h9, h10, h11, h12, h13, h14, h15, h16⟩
  · have := row_set (j := 3) r1 vs'
    rw [this]
    congr 2
    match ca, h16 with
    | ⟨[x, y]⟩, _ => rfl
  · have o5 := hb.owns h4 (kinds_apart h5 h4 (by decide))
    exact s1.owns o5 (fun g hg e => by have := (o5.lt g hg).1; omega)
  · exact (((Out.of_below h6).then hb (fun j hj e => by have := hB _ e; omega)).then s1 (fun j hj e => by omega)).below (fun j hj _ hn => by omega) (Nat.le_refl _)
  · have := hb.size
    simp [World.setCell]
    omega
end AD
end Go.Proofs.YtiggdojppfblkaaGreatDoor
end

section
/- Layer 9: the contract of the program's read. -/
namespace Go.Proofs.YtiggdojppfblkaaGreatDoor
open Go.RowKit Go.Lib Go.BigFrame
namespace AD
open OM TP TM TR AP AR FP
open CR (At ptr NPost TPost num_all text_all count_all end_all endR)

def ReadPost (a : Ar) (ok : Bool) (w : World) (r : Ending) (w' : World) : Prop :=
  ∃ vt vs, r = .returned (.tuple #[.agg #[txt a.pair, .int .i64 a.serial, vt, vs], .bool ok]) ∧ w'.ownsRow w.heap.size 25 4 vt a.tree.length (nodesC a.tree) ∧ w'.ownsRow w.heap.size 67 3 vs a.stamps.length (smsC a.stamps) ∧ Below w.heap.size w w'
theorem ver_eq {l : List UInt8} {T : ByteArray} (h : T.data.toList = l) : (T.toList == [104, 97, 119, 115, 101, 114, 32, 49]) = decide (l = ver) := by
  rw [Lib.toList_data, h]
  show (l == ver) = _
  rw [Bool.eq_iff_iff]
  simp
theorem RIn.fin {w : World} {B rb ab rs : Nat} {ca cr : Array Value} {r : Rd} {n m : Nat} {ts : List Nd} {us : List Sm} {vt vs : Value} {wr W : World} (h : RIn w B rb ab rs ca cr r n m ts us vt vs wr) (hrs : w.heap.size ≤ rs) (ho : Out (· = rs) wr W) :
    W.ownsRow w.heap.size 25 4 vt n (nodesC ts) ∧ W.ownsRow w.heap.size 67 3 vs m (smsC us) ∧ Below w.heap.size w W := by
  have h1 := h.rsB
  have h2 := h.rbw
  have h3 := h.rbB
  refine ⟨owns_base (ho.owns h.nds (fun g hg e => by have := (h.nds.lt g hg).1; omega)) _ (by omega), owns_base (ho.owns h.sms (fun g hg e => by have := (h.sms.lt g hg).1; omega)) _ (by omega), ?_⟩
  exact ((Out.of_below h.below).then ho (fun j hj e => by omega)).below (fun j hj _ hn => by omega) (Nat.le_refl _)
def LInv (w : World) (B rb ab rs : Nat) (P4 : ByteArray) (s5 : Nat) (d6 : Rd) (n : Nat) (s : Value) (wr : World) : Prop :=
  ∃ (k : Nat) (a1 : Option Addr) (c1 : Nat) (a2 : Option Addr) (c2 : Nat), s = .int .i64 k ∧ k ≤ n ∧
    RIn w B rb ab rs #[.string P4, .int .i64 (s5 : Nat)] #[.string ⟨#[]⟩, .int .i64 0, .slice none 0 0, .slice none 0 0] (rNodes k d6).2.2 k k (rNodes k d6).1 (rNodes k d6).2.1 (.slice a1 k c1) (.slice a2 k c2) wr
set_option maxRecDepth 100000 in
set_option maxHeartbeats 6400000 in
theorem read_any (p : List UInt8) (S : ByteArray) (w : World) (hS : S.data.toList = p) (hl : p.length ≤ maxLen) :
    Calls Tryz.prog 42 #[.string S] w (ReadPost (readA p).1 (readA p).2 w) := by
  obtain ⟨w1, hw1⟩ : ∃ w1, w.alloc (.cells #[.string ⟨#[]⟩, .int .i64 0, .slice none 0 0, .slice none 0 0] 35) = w1 := ⟨_, rfl⟩
  have b1 : Below w.heap.size w w1 := by rw [← hw1]; exact (Below.refl _ _).alloc (Nat.le_refl _) _
  have r1 : w1.heap[w.heap.size]? = some (.cells #[.string ⟨#[]⟩, .int .i64 0, .slice none 0 0, .slice none 0 0] 35 (0, 0)) := by rw [← hw1]; exact heap_alloc_new w _
  obtain ⟨rb, hrb⟩ : ∃ rb, w1.heap.size = rb := ⟨_, rfl⟩
  obtain ⟨rs, hrs⟩ : ∃ rs, w.heap.size = rs := ⟨_, rfl⟩
  have hz1 : rb = rs + 1 := by rw [← hrb, ← hrs, ← hw1]; simp
  have HZ := Lib.hid hz1
  have CN := CR.new_any S w1
  rw [hrb] at CN
  have CN := Lib.hid CN
  have HS := Lib.hid hS
  have HL := Lib.hid hl
  rw [hrs] at r1 b1
  have B1 := Lib.hid b1
  have R1 := Lib.hid r1
  have HRS := Lib.hid hrs
  have HRB := Lib.hid hrb
  clear hS hl b1 r1 hz1
  go_enter Tryz.func42, Tryz.ntmps42
  repeat (first | (go_at_call 74; fail) | go_skip | go_guarded | go_step | go_upon)
  refine CN.out.mono ?_
  rintro r w2 ⟨rfl, hr, hb⟩
  simp only []
  have A2 : Hid (At rb (p, 0) w2) := Lib.hid ⟨S, HS.out, hr⟩
  have hrsb : rs < rb := by have := HZ.out; omega
  have R2 := Lib.hid ((hb.block _ hrsb).trans R1.out)
  have B2 : Hid (Below rs w w2) := Lib.hid (B1.out.trans (hb.mono (by omega)))
  have HRSB := Lib.hid hrsb
  clear hr hb hrsb
  have c3 := text_all rb 8 (p, 0) w2 A2.out HL.out
  obtain ⟨x3, hx3⟩ : ∃ x, rTxt 8 (p, 0) = x := ⟨_, rfl⟩
  have HX3 := Lib.hid hx3
  rw [hx3] at c3
  clear hx3
  obtain ⟨v3, d3⟩ := x3
  obtain ⟨T, hT⟩ : ∃ T : ByteArray, ⟨v3.toArray⟩ = T := ⟨_, rfl⟩
  have hTd : T.data.toList = v3 := by rw [← hT]
  unfold TPost at c3
  simp only [hT] at c3
  have C3 := Lib.hid c3
  have hTv := ver_eq hTd
  clear c3 hT hTd
  repeat (first | (go_at_call 75; fail) | go_skip | go_guarded | go_step | go_upon)
  refine C3.out.mono ?_
  rintro r w3 ⟨rfl, ha3, hb3⟩
  simp only []
  have A3 := Lib.hid ha3
  have O3 := Lib.hid hb3
  have R3 := Lib.hid (hb3.row R2.out (fun e => by have := HRSB.out; omega))
  have B3 : Hid (Below rs w w3) := Lib.hid (((Out.of_below B2.out).then hb3 (fun j hj e => by have := HRSB.out; omega)).below (fun j hj _ hn => by omega) (by have := HRS.out; omega))
  by_cases hv : v3 = ver
  · rw [decide_eq_true hv] at hTv
    have HV := Lib.hid hv
    clear hv ha3 hb3
    have HL3 : Hid (d3.1.length ≤ maxLen) := Lib.hid (by
      have := CR.txt_left 8 (p, 0)
      rw [HX3.out] at this
      exact Nat.le_trans this HL.out)
    have c4 := text_all rb 64 d3 w3 A3.out HL3.out
    obtain ⟨x4, hx4⟩ : ∃ x, rTxt 64 d3 = x := ⟨_, rfl⟩
    have HX4 := Lib.hid hx4
    rw [hx4] at c4
    clear hx4
    obtain ⟨v4, d4⟩ := x4
    have HL4 : Hid (d4.1.length ≤ maxLen) := Lib.hid (by
      have := CR.txt_left 64 d3
      rw [HX4.out] at this
      exact Nat.le_trans this HL3.out)
    obtain ⟨P4, hP4⟩ : ∃ T : ByteArray, ⟨v4.toArray⟩ = T := ⟨_, rfl⟩
    have HP4 := Lib.hid hP4
    unfold TPost at c4
    simp only [hP4] at c4
    have C4 := Lib.hid c4
    clear c4 hP4
    repeat (first | (go_at_call 75; fail) | go_skip | go_guarded | go_step | go_upon)
    refine C4.out.mono ?_
    rintro r w4 ⟨rfl, ha4, hb4⟩
    simp only []
    have A4 := Lib.hid ha4
    have c5 := num_all rb d4 w4 ha4 HL4.out
    obtain ⟨x5, hx5⟩ : ∃ x, rNum d4 = x := ⟨_, rfl⟩
    have HX5 := Lib.hid hx5
    rw [hx5] at c5
    clear hx5
    obtain ⟨s5, d5⟩ := x5
    have HL5 : Hid (d5.1.length ≤ maxLen) := Lib.hid (by
      have := CR.num_left d4
      rw [HX5.out] at this
      exact Nat.le_trans this HL4.out)
    have C5 := Lib.hid c5
    have R4 := Lib.hid (hb4.row R3.out (fun e => by have := HRSB.out; omega))
    have B4 : Hid (Below rs w w4) := Lib.hid (((Out.of_below B3.out).then hb4 (fun j hj e => by have := HRSB.out; omega)).below (fun j hj _ hn => by omega) (by have := HRS.out; omega))
    clear c5 ha4 hb4
    repeat (first | (go_at_call 76; fail) | go_skip | go_guarded | go_step | go_upon)
    refine C5.out.mono ?_
    rintro r w5 ⟨rfl, ha5, hb5⟩
    simp only []
    have R5 := Lib.hid (hb5.row R4.out (fun e => by have := HRSB.out; omega))
    have B5 : Hid (Below rs w w5) := Lib.hid (((Out.of_below B4.out).then hb5 (fun j hj e => by have := HRSB.out; omega)).below (fun j hj _ hn => by omega) (by have := HRS.out; omega))
    obtain ⟨ab, hab⟩ : ∃ ab, w5.heap.size = ab := ⟨_, rfl⟩
    obtain ⟨w6, hw6⟩ : ∃ w6, w5.alloc (.cells #[.string P4, .int .i64 (s5 : Nat), .slice none 0 0, .slice none 0 0] 35) = w6 := ⟨_, rfl⟩
    have b6 : Below w5.heap.size w5 w6 := by rw [← hw6]; exact (Below.refl _ _).alloc (Nat.le_refl _) _
    have r6 : w6.heap[ab]? = some (.cells #[.string P4, .int .i64 (s5 : Nat), .slice none 0 0, .slice none 0 0] 35 (0, 0)) := by rw [← hw6, ← hab]; exact heap_alloc_new w5 _
    have ho6 : Out (fun k => w5.heap.size ≤ k) w5 w6 := Out.of_below b6
    have hrb5 := ha5.lt
    have ha6 := ha5.out ho6 (fun e => by omega)
    have hrs5 := (Array.getElem?_eq_some_iff.1 R5.out).1
    have R6 := Lib.hid (ho6.row R5.out (fun e => by omega))
    have B6 : Hid (Below rs w w6) := Lib.hid (B5.out.trans (b6.mono (by omega)))
    have RA6 := Lib.hid r6
    have HABr : Hid (rb < ab ∧ rs < ab) := Lib.hid ⟨by omega, by omega⟩
    have HAB := Lib.hid hab
    have c6 := count_all rb 1000 8 d5 w6 ha6 HL5.out
    obtain ⟨x6, hx6⟩ : ∃ x, rCnt 1000 8 d5 = x := ⟨_, rfl⟩
    have HX6 := Lib.hid hx6
    rw [hx6] at c6
    have hn6 := CR.cnt_most 1000 8 d5 (by decide)
    rw [hx6] at hn6
    clear hx6
    obtain ⟨n, d6⟩ := x6
    simp only [] at hn6
    have HL6 : Hid (d6.1.length ≤ maxLen) := Lib.hid (by
      have := CR.cnt_left 1000 8 d5
      rw [HX6.out] at this
      exact Nat.le_trans this HL5.out)
    have C6 := Lib.hid c6
    have HW6 := Lib.hid hw6
    clear c6 ha5 hb5 ha6 ho6 r6 b6 hrb5 hrs5 hw6 hab
    repeat (first | (go_at_call 77; fail) | go_skip | go_guarded | go_step | go_upon)
    rw [HW6.out, HAB.out]
    refine C6.out.mono ?_
    rintro r w7 ⟨rfl, ha7, hb7⟩
    simp only []
    have HI : Hid (RIn w w7.heap.size rb ab rs #[.string P4, .int .i64 (s5 : Nat)] #[.string ⟨#[]⟩, .int .i64 0, .slice none 0 0, .slice none 0 0] d6 0 0 [] [] (.slice none 0 0) (.slice none 0 0) w7) := Lib.hid (by
      have r7 := hb7.row R6.out (fun e => by have := HRSB.out; omega)
      have a7 := hb7.row RA6.out (fun e => by have := HABr.out; omega)
      have b7 : Below rs w w7 := ((Out.of_below B6.out).then hb7 (fun j hj e => by have := HRSB.out; omega)).below (fun j hj _ hn => by omega) (by have := HRS.out; omega)
      have := HRSB.out
      have := HABr.out
      have h1 := HRS.out
      rw [← h1] at b7
      exact ⟨ha7, a7, r7, World.ownsRow_nil _ _ _ _, World.ownsRow_nil _ _ _ _, b7, Nat.le_refl _, ha7.lt, (Array.getElem?_eq_some_iff.1 a7).1, (Array.getElem?_eq_some_iff.1 r7).1, by omega, by omega, by omega, by omega, by omega, rfl⟩)
    obtain ⟨B, hB⟩ : ∃ B, w7.heap.size = B := ⟨_, rfl⟩
    rw [hB] at HI
    clear hB ha7 hb7
    repeat (first | go_skip | go_guarded | go_step | go_upon)
    go_loopw [19] (fun s19 wr => LInv w B rb ab rs P4 s5 d6 n s19 wr) (fun s19 _ => n - (Go.RowKit.intOf s19).toNat)
    case atStart => exact ⟨0, none, 0, none, 0, rfl, Nat.zero_le _, HI.out⟩
    case round =>
      obtain ⟨k, a1, c1, a2, c2, rfl, hk, hin⟩ := hrel
      have HIn := Lib.hid hin
      clear hin
      by_cases hlt : k < n
      · have hkz : (k : Int) < n := by omega
        have HLk : Hid ((rNodes k d6).2.2.1.length ≤ maxLen) := Lib.hid (Nat.le_trans (CR.nodes_left k d6) HL6.out)
        obtain ⟨rk, hrk⟩ : ∃ r, (rNodes k d6).2.2 = r := ⟨_, rfl⟩
        obtain ⟨ts, hts⟩ : ∃ r, (rNodes k d6).1 = r := ⟨_, rfl⟩
        obtain ⟨us, hus⟩ : ∃ r, (rNodes k d6).2.1 = r := ⟨_, rfl⟩
        have IN0 := HIn.out.thenBelow ((Below.refl _ _).drew)
        rw [hrk, hts, hus] at IN0
        rw [hrk] at HLk
        obtain ⟨y1, hy1⟩ : ∃ x, rTxt 400 rk = x := ⟨_, rfl⟩
        have HY1 := Lib.hid hy1
        have cc1 := fun (W : World) (hW : At rb rk W) => text_all rb 400 rk W hW HLk.out
        rw [hy1] at cc1
        clear hy1
        obtain ⟨v1', e1⟩ := y1
        obtain ⟨X1, hX1⟩ : ∃ T : ByteArray, ⟨v1'.toArray⟩ = T := ⟨_, rfl⟩
        have HX1' := Lib.hid hX1
        unfold TPost at cc1
        simp only [hX1] at cc1
        clear hX1
        have CC1 := Lib.hid cc1
        clear cc1
        have HLe1 : Hid (e1.1.length ≤ maxLen) := Lib.hid (by
          have := CR.txt_left 400 rk
          rw [HY1.out] at this
          exact Nat.le_trans this HLk.out)
        obtain ⟨y2, hy2⟩ : ∃ x, rNum e1 = x := ⟨_, rfl⟩
        have HY2 := Lib.hid hy2
        have cc2 := fun (W : World) (hW : At rb e1 W) => num_all rb e1 W hW HLe1.out
        rw [hy2] at cc2
        clear hy2
        obtain ⟨v2', e2⟩ := y2
        have CC2 := Lib.hid cc2
        clear cc2
        have HLe2 : Hid (e2.1.length ≤ maxLen) := Lib.hid (by
          have := CR.num_left e1
          rw [HY2.out] at this
          exact Nat.le_trans this HLe1.out)
        obtain ⟨y3, hy3⟩ : ∃ x, rNum e2 = x := ⟨_, rfl⟩
        have HY3 := Lib.hid hy3
        have cc3 := fun (W : World) (hW : At rb e2 W) => num_all rb e2 W hW HLe2.out
        rw [hy3] at cc3
        clear hy3
        obtain ⟨v3', e3⟩ := y3
        have CC3 := Lib.hid cc3
        clear cc3
        have HLe3 : Hid (e3.1.length ≤ maxLen) := Lib.hid (by
          have := CR.num_left e2
          rw [HY3.out] at this
          exact Nat.le_trans this HLe2.out)
        obtain ⟨y4, hy4⟩ : ∃ x, rTxt 64 e3 = x := ⟨_, rfl⟩
        have HY4 := Lib.hid hy4
        have cc4 := fun (W : World) (hW : At rb e3 W) => text_all rb 64 e3 W hW HLe3.out
        rw [hy4] at cc4
        clear hy4
        obtain ⟨v4', e4⟩ := y4
        obtain ⟨X4, hX4⟩ : ∃ T : ByteArray, ⟨v4'.toArray⟩ = T := ⟨_, rfl⟩
        have HX4' := Lib.hid hX4
        unfold TPost at cc4
        simp only [hX4] at cc4
        clear hX4
        have CC4 := Lib.hid cc4
        clear cc4
        have HLe4 : Hid (e4.1.length ≤ maxLen) := Lib.hid (by
          have := CR.txt_left 64 e3
          rw [HY4.out] at this
          exact Nat.le_trans this HLe3.out)
        obtain ⟨y5, hy5⟩ : ∃ x, rNum e4 = x := ⟨_, rfl⟩
        have HY5 := Lib.hid hy5
        have cc5 := fun (W : World) (hW : At rb e4 W) => num_all rb e4 W hW HLe4.out
        rw [hy5] at cc5
        clear hy5
        obtain ⟨v5', e5⟩ := y5
        have CC5 := Lib.hid cc5
        clear cc5
        have HLe5 : Hid (e5.1.length ≤ maxLen) := Lib.hid (by
          have := CR.num_left e4
          rw [HY5.out] at this
          exact Nat.le_trans this HLe4.out)
        obtain ⟨y6, hy6⟩ : ∃ x, rNum e5 = x := ⟨_, rfl⟩
        have HY6 := Lib.hid hy6
        have cc6 := fun (W : World) (hW : At rb e5 W) => num_all rb e5 W hW HLe5.out
        rw [hy6] at cc6
        clear hy6
        obtain ⟨v6', e6⟩ := y6
        have CC6 := Lib.hid cc6
        clear cc6
        have HLe6 : Hid (e6.1.length ≤ maxLen) := Lib.hid (by
          have := CR.num_left e5
          rw [HY6.out] at this
          exact Nat.le_trans this HLe5.out)
        obtain ⟨y7, hy7⟩ : ∃ x, rNum e6 = x := ⟨_, rfl⟩
        have HY7 := Lib.hid hy7
        have cc7 := fun (W : World) (hW : At rb e6 W) => num_all rb e6 W hW HLe6.out
        rw [hy7] at cc7
        clear hy7
        obtain ⟨v7', e7⟩ := y7
        have CC7 := Lib.hid cc7
        clear cc7
        have HLe7 : Hid (e7.1.length ≤ maxLen) := Lib.hid (by
          have := CR.num_left e6
          rw [HY7.out] at this
          exact Nat.le_trans this HLe6.out)
        have HNx : Hid (rNodes (k + 1) d6 = (ts ++ [⟨v1', v2', v4', v3'⟩], us ++ [⟨v5', v6', v7'⟩], e7)) := Lib.hid (by
          have hn : rNode rk = ((⟨v1', v2', v4', v3'⟩, ⟨v5', v6', v7'⟩), e7) := by
            unfold rNode
            simp only []
            rw [HY1.out]
            simp only []
            rw [HY2.out]
            simp only []
            rw [HY3.out]
            simp only []
            rw [HY4.out]
            simp only []
            rw [HY5.out]
            simp only []
            rw [HY6.out]
            simp only []
            rw [HY7.out]
          rw [rNodes, hrk, hn, hts, hus])
        have HK1 : Hid (k ≤ 1000) := Lib.hid (by omega)
        have HT1 : Hid (txt v1' = .string X1) := Lib.hid (by unfold txt; rw [HX1'.out])
        have HT4 : Hid (txt v4' = .string X4) := Lib.hid (by unfold txt; rw [HX4'.out])
        have I0 := Lib.hid IN0
        have s2 : wr.drew.cell? ⟨ab, 2, none⟩ = some (.slice a1 k c1) := by rw [cell_of_row _ _ 2 _ _ _ IN0.row]; rfl
        have s2w : wr.cell? ⟨ab, 2, none⟩ = some (.slice a1 k c1) := s2
        clear IN0 hrk hts hus hlt
        repeat (first | go_skip | go_guarded | go_step | go_upon)
        refine wp_region_noPanic ?_
        with_reducible refine QT.region_pick (S := fun w' => w'.cell? ⟨ab, 2, none⟩ = some (.slice a1 k c1)) [0, 1, 2, 4, 6, 8] [3, 5, 7, 9, 10, 11, 12] 13 (by kernel_rfl) (by kernel_rfl) ?_ ?_ ?_
        · exact fun _ _ _ _ _ h => h
        · exact s2
        intro _
        simp only [QT.pick, List.filterMap_cons, List.filterMap_nil, List.getElem?_cons_succ, List.getElem?_cons_zero, List.drop_succ_cons, List.drop_zero]
        iterate 6 (refine QT.wpTake_cons _ (by rfl) (by intro w' hSw; go_simp; first | done | rfl) ?_; try simp only [Act.put, List.setIfInBounds_toArray, List.set_cons_zero, List.set_cons_succ])
        refine QT.wpTake_nil ?_
        intro K' hK
        rw [if_pos (by rfl)]
        go_simp
        refine (CC1.out _ I0.out.rd).mono ?_
        rintro r V1 ⟨rfl, hva, hvo⟩
        simp only []
        have J1 := Lib.hid (I0.out.turn hva hvo)
        refine hK.out _ _ ((cell_of_row _ _ 2 _ _ _ J1.out.row).trans rfl) ?_
        clear hK K' hva hvo
        try simp only [Act.put, List.setIfInBounds_toArray, List.set_cons_zero, List.set_cons_succ]
        intro K' hK
        rw [if_pos (by rfl)]
        go_simp
        refine (CC2.out _ J1.out.rd).mono ?_
        rintro r V2 ⟨rfl, hva, hvo⟩
        simp only []
        have J2 := Lib.hid (J1.out.turn hva hvo)
        refine hK.out _ _ ((cell_of_row _ _ 2 _ _ _ J2.out.row).trans rfl) ?_
        clear hK K' hva hvo
        try simp only [Act.put, List.setIfInBounds_toArray, List.set_cons_zero, List.set_cons_succ]
        intro K' hK
        rw [if_pos (by rfl)]
        go_simp
        refine (CC3.out _ J2.out.rd).mono ?_
        rintro r V3 ⟨rfl, hva, hvo⟩
        simp only []
        have J3 := Lib.hid (J2.out.turn hva hvo)
        refine hK.out _ _ ((cell_of_row _ _ 2 _ _ _ J3.out.row).trans rfl) ?_
        clear hK K' hva hvo
        try simp only [Act.put, List.setIfInBounds_toArray, List.set_cons_zero, List.set_cons_succ]
        intro K' hK
        rw [if_pos (by rfl)]
        go_simp
        refine (CC4.out _ J3.out.rd).mono ?_
        rintro r V4 ⟨rfl, hva, hvo⟩
        simp only []
        have J4 := Lib.hid (J3.out.turn hva hvo)
        refine hK.out _ _ ((cell_of_row _ _ 2 _ _ _ J4.out.row).trans rfl) ?_
        clear hK K' hva hvo
        try simp only [Act.put, List.setIfInBounds_toArray, List.set_cons_zero, List.set_cons_succ]
        intro K' hK
        rw [if_pos (by rfl)]
        go_simp
        refine hK.out _ _ ((cell_of_row _ _ 2 _ _ _ J4.out.row).trans rfl) ?_
        clear hK K'
        try simp only [Act.put, List.setIfInBounds_toArray, List.set_cons_zero, List.set_cons_succ]
        obtain ⟨ap, cp, V5, hrun, hown, hout⟩ := node_step (n := ⟨v1', v2', v4', v3'⟩) J4.out.nds HT1.out HT4.out HK1.out J4.out.big
        intro K' hK
        rw [if_pos (by rfl)]
        go_simp
        refine hK.out _ _ ((cell_of_row _ _ 2 _ _ _ (J4.out.thenBelow ((Below.refl _ _).alloc (Nat.le_refl _) _)).row).trans rfl) ?_
        clear hK K'
        try simp only [Act.put, List.setIfInBounds_toArray, List.set_cons_zero, List.set_cons_succ]
        intro K' hK
        refine step_app_eq rfl (.tmp 22) (.tmp 32) 22 22 rfl (.slice a1 k c1) (.slice (some ⟨V4.heap.size, 0, none⟩) 1 1) rfl rfl hrun ?_
        have hrow5 := hout.row J4.out.row (fun e => by have := (J4.out.nds.lt _ e).1; have := J4.out.abB; omega)
        have x2 : V5.cell? ⟨ab, 2, none⟩ = some (.slice a1 k c1) := by rw [cell_of_row _ _ 2 _ _ _ hrow5]; rfl
        have xf : V5.frozen? ⟨ab, 2, none⟩ = false := frozen_of_row V5 ab 2 _ _ hrow5
        refine hK.out _ _ x2 ?_
        clear hK K'
        refine QT.wpDo_nil ?_
        try simp only [Act.put, List.setIfInBounds_toArray, List.set_cons_zero, List.set_cons_succ]
        have I5 := Lib.hid (J4.out.node hown hout)
        obtain ⟨W8, hW8⟩ : ∃ W8, V5.setCell ⟨ab, 2, none⟩ (.slice ap (k + 1) cp) = W8 := ⟨_, rfl⟩
        rw [hW8] at I5
        have I6 := Lib.hid (I5.out.thenBelow ((Below.refl _ _).drew))
        clear hrun hown hout hrow5 s2 s2w
        repeat (first | go_skip | go_guarded | go_step | go_upon)
        refine NoPanic.normal ?_
        try rw [hW8]
        have s2 : W8.drew.cell? ⟨ab, 3, none⟩ = some (.slice a2 k c2) := by rw [cell_of_row _ _ 3 _ _ _ I6.out.row]; rfl
        have s2w : W8.cell? ⟨ab, 3, none⟩ = some (.slice a2 k c2) := s2
        clear x2 xf hW8
        repeat (first | go_skip | go_guarded | go_step | go_upon)
        refine wp_region_noPanic ?_
        with_reducible refine QT.region_pick (S := fun w' => w'.cell? ⟨ab, 3, none⟩ = some (.slice a2 k c2)) [0, 1, 2, 4, 6] [3, 5, 7, 8, 9, 10] 11 (by kernel_rfl) (by kernel_rfl) ?_ ?_ ?_
        · exact fun _ _ _ _ _ h => h
        · exact s2
        intro _
        simp only [QT.pick, List.filterMap_cons, List.filterMap_nil, List.getElem?_cons_succ, List.getElem?_cons_zero, List.drop_succ_cons, List.drop_zero]
        iterate 5 (refine QT.wpTake_cons _ (by rfl) (by intro w' hSw; go_simp; first | done | rfl) ?_; try simp only [Act.put, List.setIfInBounds_toArray, List.set_cons_zero, List.set_cons_succ])
        refine QT.wpTake_nil ?_
        intro K' hK
        rw [if_pos (by rfl)]
        go_simp
        refine (CC5.out _ I6.out.rd).mono ?_
        rintro r V6 ⟨rfl, hva, hvo⟩
        simp only []
        have J6 := Lib.hid (I6.out.turn hva hvo)
        refine hK.out _ _ ((cell_of_row _ _ 3 _ _ _ J6.out.row).trans rfl) ?_
        clear hK K' hva hvo
        try simp only [Act.put, List.setIfInBounds_toArray, List.set_cons_zero, List.set_cons_succ]
        intro K' hK
        rw [if_pos (by rfl)]
        go_simp
        refine (CC6.out _ J6.out.rd).mono ?_
        rintro r V7 ⟨rfl, hva, hvo⟩
        simp only []
        have J7 := Lib.hid (J6.out.turn hva hvo)
        refine hK.out _ _ ((cell_of_row _ _ 3 _ _ _ J7.out.row).trans rfl) ?_
        clear hK K' hva hvo
        try simp only [Act.put, List.setIfInBounds_toArray, List.set_cons_zero, List.set_cons_succ]
        intro K' hK
        rw [if_pos (by rfl)]
        go_simp
        refine (CC7.out _ J7.out.rd).mono ?_
        rintro r V8 ⟨rfl, hva, hvo⟩
        simp only []
        have J8 := Lib.hid (J7.out.turn hva hvo)
        refine hK.out _ _ ((cell_of_row _ _ 3 _ _ _ J8.out.row).trans rfl) ?_
        clear hK K' hva hvo
        try simp only [Act.put, List.setIfInBounds_toArray, List.set_cons_zero, List.set_cons_succ]
        intro K' hK
        rw [if_pos (by rfl)]
        go_simp
        refine hK.out _ _ ((cell_of_row _ _ 3 _ _ _ J8.out.row).trans rfl) ?_
        clear hK K'
        try simp only [Act.put, List.setIfInBounds_toArray, List.set_cons_zero, List.set_cons_succ]
        obtain ⟨aq, cq, V9, hrun, hown, hout⟩ := stamp_step (s := ⟨v5', v6', v7'⟩) J8.out.sms HK1.out J8.out.big
        intro K' hK
        rw [if_pos (by rfl)]
        go_simp
        refine hK.out _ _ ((cell_of_row _ _ 3 _ _ _ (J8.out.thenBelow ((Below.refl _ _).alloc (Nat.le_refl _) _)).row).trans rfl) ?_
        clear hK K'
        try simp only [Act.put, List.setIfInBounds_toArray, List.set_cons_zero, List.set_cons_succ]
        intro K' hK
        refine step_app_eq rfl (.tmp 36) (.tmp 44) 33 33 rfl (.slice a2 k c2) (.slice (some ⟨V8.heap.size, 0, none⟩) 1 1) rfl rfl hrun ?_
        have hrow5 := hout.row J8.out.row (fun e => by have := (J8.out.sms.lt _ e).1; have := J8.out.abB; omega)
        have x2 : V9.cell? ⟨ab, 3, none⟩ = some (.slice a2 k c2) := by rw [cell_of_row _ _ 3 _ _ _ hrow5]; rfl
        have xf : V9.frozen? ⟨ab, 3, none⟩ = false := frozen_of_row V9 ab 3 _ _ hrow5
        refine hK.out _ _ x2 ?_
        clear hK K'
        refine QT.wpDo_nil ?_
        try simp only [Act.put, List.setIfInBounds_toArray, List.set_cons_zero, List.set_cons_succ]
        have I9 := Lib.hid (J8.out.stamp hown hout)
        clear hrun hown hout hrow5 s2 s2w
        repeat (first | go_skip | go_guarded | go_step | go_upon)
        refine NoPanic.normal ?_
        repeat (first | go_skip | go_guarded | go_step | go_upon)
        refine ⟨⟨k + 1, ap, cp, aq, cq, by go_num, by omega, ?_⟩, by simp [Go.RowKit.intOf]; omega⟩
        rw [HNx.out]
        exact I9.out
      · have hkz : ¬ (k : Int) < n := by omega
        have hkn : k = n := by omega
        subst hkn
        clear hlt
        have HR : Hid (readA p = (⟨v4, (s5 : Nat), (rNodes k d6).1, (rNodes k d6).2.1⟩, decide ((rNodes k d6).2.2.2 = 0 ∧ (rNodes k d6).2.2.1 = []))) := Lib.hid (by
          unfold readA
          simp only []
          rw [HX3.out]
          simp only []
          rw [if_pos HV.out, HX4.out]
          simp only []
          rw [HX5.out]
          simp only []
          rw [HX6.out])
        have HLk : Hid ((rNodes k d6).2.2.1.length ≤ maxLen) := Lib.hid (Nat.le_trans (CR.nodes_left k d6) HL6.out)
        have hln := CR.nodes_len k d6
        have HLn := Lib.hid hln
        obtain ⟨rk, hrk⟩ : ∃ r, (rNodes k d6).2.2 = r := ⟨_, rfl⟩
        have ce := end_all rb rk wr (by rw [← hrk]; exact HIn.out.rd) (by rw [← hrk]; exact HLk.out)
        obtain ⟨z, hz⟩ : ∃ z, endR rk = z := ⟨_, rfl⟩
        have hzb : ((z : Int) == 0) = decide ((rNodes k d6).2.2.2 = 0 ∧ (rNodes k d6).2.2.1 = []) := by
          rw [← hz, hrk, Bool.eq_iff_iff]
          have := CR.end_ok rk
          simp
          rw [this]
        obtain ⟨bz, hbz⟩ : ∃ b, decide ((rNodes k d6).2.2.2 = 0 ∧ (rNodes k d6).2.2.1 = []) = b := ⟨_, rfl⟩
        have HBz := Lib.hid hbz
        rw [hbz] at hzb
        rw [hz] at ce
        have CE := Lib.hid ce
        have CE2' := end_all rb rk wr.drew (by rw [← hrk]; exact (HIn.out.thenBelow ((Below.refl _ _).drew)).rd) (by rw [← hrk]; exact HLk.out)
        rw [hz] at CE2'
        obtain ⟨p0, p1, p2, p3, pf⟩ := cell4 (show wr.heap[ab]? = some (.cells #[.string P4, .int .i64 (s5 : Nat), .slice a1 k c1, .slice a2 k c2] 35 (0, 0)) from HIn.out.row)
        obtain ⟨q0, q1, q2, q3, qf⟩ := cell4 HIn.out.res
        clear ce hz hbz hrk hln
        have CE2 : Hid (Calls Tryz.prog 78 #[ptr rb] wr.drew fun e w' => e = .returned (.int .i64 (z : Nat)) ∧ wr.drew = w') := Lib.hid CE2'
        have qd := q0
        have p0' : wr.drew.cell? ⟨ab, 0, none⟩ = some (.string P4) := p0
        have p1' : wr.drew.cell? ⟨ab, 1, none⟩ = some (.int .i64 (s5 : Nat)) := p1
        have p2' : wr.drew.cell? ⟨ab, 2, none⟩ = some (.slice a1 k c1) := p2
        have p3' : wr.drew.cell? ⟨ab, 3, none⟩ = some (.slice a2 k c2) := p3
        have q0' : wr.drew.cell? ⟨rs, 0, none⟩ = some (.string ⟨#[]⟩) := q0
        have q1' : wr.drew.cell? ⟨rs, 1, none⟩ = some (.int .i64 0) := q1
        have q2' : wr.drew.cell? ⟨rs, 2, none⟩ = some (.slice none 0 0) := q2
        have q3' : wr.drew.cell? ⟨rs, 3, none⟩ = some (.slice none 0 0) := q3
        have qf' : ∀ j, wr.drew.frozen? ⟨rs, j, none⟩ = false := qf
        repeat (first | go_skip | go_guarded | go_step | go_upon)
        go_region_with (go_at_call 78; (first | refine CE2.out.mono ?_ | refine CE.out.mono ?_); rintro r w9 ⟨rfl, rfl⟩)
        all_goals
          repeat (first | go_skip | go_guarded | go_step | go_upon)
          refine bodyPost_ret (v := .tuple #[.agg #[.string P4, .int .i64 (s5 : Nat), .slice a1 k c1, .slice a2 k c2], .bool bz]) ?_ rfl ?_
          · rw [results_cell_tmp rfl]
            go_simp
          · rw [HR.out]
            have hfin := HIn.out.fin (by have := HRS.out; omega) (((((((Out.refl (· = rs) wr).drew).setCell (p := ⟨rs, 0, none⟩) (fun _ => rfl) (.string P4)).setCell (p := ⟨rs, 1, none⟩) (fun _ => rfl) (.int .i64 (s5 : Nat))).setCell (p := ⟨rs, 2, none⟩) (fun _ => rfl) (.slice a1 k c1)).setCell (p := ⟨rs, 3, none⟩) (fun _ => rfl) (.slice a2 k c2)))
            refine ⟨.slice a1 k c1, .slice a2 k c2, ?_, ?_, ?_, ?_⟩
            · simp only []
              rw [HBz.out]
              unfold txt
              rw [HP4.out]
            · simp only []
              rw [HLn.out.1]
              exact hfin.1
            · simp only []
              rw [HLn.out.2]
              exact hfin.2.1
            · exact hfin.2.2
  · rw [decide_eq_false hv] at hTv
    have HF : Hid (readA p = (zeroA, false)) := Lib.hid (by unfold readA; simp only []; rw [HX3.out, if_neg hv])
    obtain ⟨q0, q1, q2, q3, qf⟩ := cell4 R3.out
    clear hv ha3 hb3
    repeat (first | go_skip | go_guarded | go_step | go_upon)
    refine bodyPost_ret (v := .tuple #[.agg #[.string ⟨#[]⟩, .int .i64 0, .slice none 0 0, .slice none 0 0], .bool false]) ?_ rfl ?_
    · rw [results_cell_tmp rfl]
      go_simp
    · rw [HF.out]
      refine ⟨_, _, rfl, World.ownsRow_nil _ _ _ _, World.ownsRow_nil _ _ _ _, ?_⟩
      have b := B3.out
      have e := HRS.out
      rw [e]
      first
        | exact b
        | exact ((((b.setCell (p := ⟨rs, 0, none⟩) (Nat.le_refl _) _).setCell (p := ⟨rs, 1, none⟩) (Nat.le_refl _) _).setCell (p := ⟨rs, 2, none⟩) (Nat.le_refl _) _).setCell (p := ⟨rs, 3, none⟩) (Nat.le_refl _) _)
end AD
end Go.Proofs.YtiggdojppfblkaaGreatDoor
end

section
/- What every row of this seat shares: what its world holds of Go's tables, the witness's world, the step from walks to rows. -/
namespace Go.Proofs.YtiggdojppfblkaaGreatDoor
open Go.ChangeShapes Go.WideShapes Go.ChangeAt Go.RowKit Go.Lib
namespace FR

theorem own : ownKnob Tryz.prog.godebug = none := by kernel_rfl
def laid : List (String × DataW Unit) := [("unicode/utf8.acceptRanges", Rows.laid_unicode_utf8_acceptRanges), ("unicode/utf8.first", Rows.laid_unicode_utf8_first)]
theorem accept_eq : (Rows.laid_unicode_utf8_acceptRanges : DataW Unit) = acceptData := by kernel_rfl
theorem first_eq : Rows.laid_unicode_utf8_first = firstData := Pinned.utf8First_eq
theorem max_cell (w : World) (h : w.ShapedOpen Tryz.prog) : ∃ m, w.cell? ⟨3, 0, none⟩ = some (.int .i64 m) := by
  have h0 : (((begin Tryz.prog (fun _ _ => 0) default).world.heap[3]?).bind Obj.row?).map (fun x => (x.1.size, x.2)) = some (1, 3) := by kernel_rfl
  obtain ⟨⟨z, t⟩, hz, e⟩ := Option.map_eq_some_iff.1 h0
  simp only [Prod.mk.injEq] at e
  obtain ⟨e1, rfl⟩ := e
  exact cell_of_shapedOpen_int h (of_decide_eq_true (by kernel_rfl)) hz e1 (by kernel_rfl) (by kernel_rfl) Tryz.underlying3
theorem env_of {W : World} (hL : laidMetH Tryz.prog laid W) (hsh : W.ShapedOpen Tryz.prog) : NF.Env W := by
  rw [MakeChecks.laidMetH_plain _ _ _ (by kernel_rfl)] at hL
  refine ⟨utf8Tabs_of_readsT (U8Types.of196 Tryz.laysValid) ⟨by kernel_rfl, by kernel_rfl, by kernel_rfl, by kernel_rfl, by kernel_rfl, by kernel_rfl, by kernel_rfl⟩ ?_ ?_, max_cell W hsh⟩
  · have := Lib.laidMet.reads hL (.tail _ (.head _))
    rw [first_eq] at this
    exact this
  · have := Lib.laidMet.reads hL (.head _)
    rw [accept_eq] at this
    exact this
/-- The witness's world: the tables lie in it as Go's text lays them. -/
noncomputable def w0 (os : Os) (args : Array Value) : World := (World.laidAll Tryz.prog os laid).forCall (fun _ _ => 0) ⟨#[], args, []⟩
theorem shaped (os : Os) (args : Array Value) : (w0 os args).Shaped Tryz.prog := World.shaped_of_ZipB (by kernel_rfl) (by kernel_rfl)
theorem met (os : Os) (args : Array Value) : laidMetH Tryz.prog laid (w0 os args).memory := by
  rw [MakeChecks.laidMetH_plain _ _ _ (by kernel_rfl)]
  exact laidMet_laidAll _ (by kernel_rfl) (by kernel_rfl)
theorem witness {H : Type} {enc : TypeId × Value → H} {os : Os} {f : FuncId} {fn : Func} {s : OpenSpec} {conds : List PathCond} {apart : Bool} (args : Array Value)
    (hok : Input.okWideB Tryz.checked.prog (w0 os args) f ⟨#[], args, []⟩ = true)
    (hrow : s.preRow enc Tryz.checked.prog fn conds apart laid (w0 os args).memory args) :
    ∃ (w : World) (tape : Tape) (i : Input), w.os = os ∧ (w.forCall tape i).Shaped Tryz.checked.prog ∧ i.vars = [] ∧ Input.okWide Tryz.checked.prog (w.forCall tape i) .any w.heap.size f i ∧
      s.preRow enc Tryz.checked.prog fn conds apart laid (w.forCall tape i).memory i.args ∧ ({} : Assume).holds Tryz.checked.prog (lone (Frame.enter Tryz.checked.prog f i.args .normal) [] (w.forCall tape i)) :=
  ⟨World.laidAll Tryz.prog os laid, fun _ _ => 0, ⟨#[], args, []⟩, World.laidAll_os _ _ _, shaped os args, (Input.okWide_of_okWideB (base := 0) hok).1, (Input.okWide_of_okWideB hok).2, hrow, by
    simp only [Assume.holds]
    exact ⟨by simp, by simp, fun _ => Modest.zero, by simp, by simp⟩⟩
end FR
end Go.Proofs.YtiggdojppfblkaaGreatDoor
end

section
/- The step from a statement's walk to its row: whatever the arguments' types: they read behind the call as they read before, and the answer is true. -/
namespace Go.Proofs.YtiggdojppfblkaaGreatDoor
open Go.ChangeShapes Go.RowKit
namespace LK

/-- What every statement's walk comes to: true; of what was there nothing has turned. -/
def Yes (w : World) (e : Ending) (w' : World) : Prop := e = .returned (.bool true) ∧ Below w.heap.size w w'
theorem laidOut : laidOutB Tryz.prog = true := by kernel_rfl
theorem keep_all {H : Type} {enc : TypeId × Value → H} {W W' : World} (hb : Below W.heap.size W W') : ∀ (ts : List TypeId) (vs : List Value) (ds : List (DataW H)) (ps : List MemPlace),
    (∀ t ∈ ts, Tryz.prog.readableRec t = true ∧ t < Tryz.prog.types.size) → DataW.TrodAll enc Tryz.prog W 0 (fun _ => true) true ts vs ds ps → (∀ x ∈ ps, x.block < W.heap.size) →
    DataW.TrodAll enc Tryz.prog W' 0 (fun b => decide (b < W.heap.size)) true ts vs ds ps
  | [], vs, ds, ps, _, h, _ => by
    obtain ⟨rfl, rfl, rfl⟩ := trodAll_nil h
    exact trodAll_mk0
  | t :: ts, vs, ds, ps, ht, h, hlt => by
    obtain ⟨v, vs', d, ds', p, q, rfl, rfl, rfl, h0, hr⟩ := trodAll_cons h
    refine trodAll_cons_mk (Below.trod laidOut (ht t (by simp)).1 (ht t (by simp)).2 h0 hb (fun x hx => hlt x (by simp [hx]))) ?_
    exact keep_all hb ts vs' ds' q (fun t' h' => ht t' (by simp [h'])) hr (fun x hx => hlt x (by simp [hx]))
/-- The row's post, out of the walk's. -/
theorem post_of {H : Type} {enc : TypeId × Value → H} {s : ChangeSpec} {fid : FuncId} {fn : Func} {W : World} {args : Array Value} {ds gs : List (DataW H)} {before : List MemPlace}
    (hvars : s.vars = []) (hts : (fn.params.toList.all fun t => Tryz.prog.readableRec t && decide (t < Tryz.prog.types.size)) = true) (hres : fn.resultTypes = #[4])
    (hfn : ∀ gs : List (DataW H), gs = [] → s.fn H (ds ++ gs) = { results := [.lit (.bool true)], args := ds })
    (hW : DataW.Whole enc Tryz.prog fn.params.toList s.vars false W args.toList ds gs before)
    (hc : Calls Tryz.prog fid args W (Yes W)) : Calls Tryz.prog fid args W fun e W' => ∃ v, e = .returned v ∧ s.post enc Tryz.prog fn false true false false W args v W' := by
  refine hc.mono fun e W' ⟨he, hb⟩ => ⟨_, he, ?_⟩
  have hlt : ∀ x ∈ before, x.block < W.heap.size := hW.lt
  have hW' := hW
  obtain ⟨p, q, hA, hV, rfl, hfz, hnd⟩ := hW
  rw [hvars] at hV
  obtain ⟨rfl, rfl⟩ := trodVars_none hV
  have hA0 : DataW.TrodAll enc Tryz.prog W 0 (fun _ => true) true fn.params.toList args.toList ds p := hA
  have e0 := hfn [] rfl
  refine ⟨ds, [], p ++ [], [], p, [], hW', ?_, ?_, ?_, hb.frame _, fun h => by cases h⟩
  · rw [e0, hres]
    exact trodAll_mk1 (shut_bool Tryz.underlying4 _)
  · rw [e0]
    refine keep_all hb _ _ _ _ (fun t ht => ?_) hA0 (fun x hx => hlt x (by simp [hx]))
    have := List.all_eq_true.1 hts t ht
    simpa using this
  · rw [e0, hvars]
    rfl
end LK
end Go.Proofs.YtiggdojppfblkaaGreatDoor
end

section
/- Layer 6: a list of nodes out of the arguments. -/
namespace Go.Proofs.YtiggdojppfblkaaGreatDoor
open Go.ChangeShapes Go.WideShapes Go.ChangeAt Go.RowKit Go.Lib
namespace TF
open OM TP TM TG

section
open Go.Deep
variable {H : Type} {enc : TypeId × Value → H} {P : Program} {w : World} {base : Nat} {spare : Nat → Bool} {held : Bool}
/-- A list of structs of four one-cell fields: the cells of each. -/
theorem open_fours {t e : TypeId} {f0 f1 f2 f3 : Field} {fuel : Nat} {cs : List Value} {x : DataW H × List MemPlace} (ht : P.underlying t = some (.slice e)) (he : P.underlying e = some (.struct #[f0, f1, f2, f3]))
    (ce : P.cellsOf e = 4) (o0 : f0.offset = 0) (o1 : f1.offset = 1) (o2 : f2.offset = 2) (o3 : f3.offset = 3) (c0 : P.cellsOf f0.type = 1) (c1 : P.cellsOf f1.type = 1) (c2 : P.cellsOf f2.type = 1) (c3 : P.cellsOf f3.type = 1)
    (h : DataW.trod enc P w base spare held fuel t cs = some x) :
    cs = [.slice none 0 0] ∨
    ∃ (a : Addr) (len cap n : Nat) (D : Nat → DataW H) (sp : List (DataW H)), cs = [.slice (some a) len cap] ∧ len ≤ cap ∧ cap ≤ maxLen ∧ x.1 = .slice ((List.range len).map D) sp ∧
      ∀ i, i < len → ∃ (v0 v1 v2 v3 : Value) (y0 y1 y2 y3 : DataW H × List MemPlace), w.cell? (a.add (i * 4)) = some v0 ∧ w.cell? (a.add (i * 4 + 1)) = some v1 ∧ w.cell? (a.add (i * 4 + 2)) = some v2 ∧ w.cell? (a.add (i * 4 + 3)) = some v3 ∧
        D i = .agg [y0.1, y1.1, y2.1, y3.1] ∧
        DataW.trod enc P w base spare held n f0.type [v0] = some y0 ∧ DataW.trod enc P w base spare held n f1.type [v1] = some y1 ∧ DataW.trod enc P w base spare held n f2.type [v2] = some y2 ∧ DataW.trod enc P w base spare held n f3.type [v3] = some y3 := by
  rcases open_slice ht h with h0 | ⟨a, len, cap, m, n, D, Pl, rfl, hb, hl, hm, hmm, rfl, hx⟩
  · exact Or.inl h0.1
  right
  have hlm : len ≤ m := by rw [hmm]; split <;> omega
  refine ⟨a, len, cap, n - 1, D, _, rfl, hl, hm, rfl, fun i hi => ?_⟩
  obtain ⟨cs', h1, h2⟩ := hx i (by omega)
  rw [ce] at h1
  obtain ⟨_, hlen, hcell⟩ := World.cells?_some h1
  obtain ⟨xs, k, hk, hxy, _, hxl, hf⟩ := DataW.trod_struct he h2
  have hk' : k = n - 1 := by omega
  subst hk'
  match xs, hxl, cs', hlen with
  | [y0, y1, y2, y3], _, [v0, v1, v2, v3], _ =>
    have g0 := hf 0 f0 rfl
    have g1 := hf 1 f1 rfl
    have g2 := hf 2 f2 rfl
    have g3 := hf 3 f3 rfl
    simp [o0, o1, o2, o3, c0, c1, c2, c3] at g0 g1 g2 g3
    have e0 := hcell 0 (by omega)
    have e1 := hcell 1 (by omega)
    have e2 := hcell 2 (by omega)
    have e3 := hcell 3 (by omega)
    rw [add_add] at e0 e1 e2 e3
    simp only [Prod.mk.injEq] at hxy
    exact ⟨v0, v1, v2, v3, y0, y1, y2, y3, by simpa using e0, by simpa using e1, by simpa using e2, by simpa using e3, hxy.1, g0, g1, g2, g3⟩
end
theorem add_plain (b off k : Nat) : (⟨b, off, none⟩ : Addr).add k = ⟨b, off + k, none⟩ := by unfold Addr.add; split <;> simp_all
theorem bulk_pos {H : Type} (d : DataW H) : 1 ≤ Rows.uptoBulk d := by
  cases d with
  | lit l => cases l <;> simp [Rows.uptoBulk]
  | _ => simp [Rows.uptoBulk]
theorem bulk_len {H : Type} : ∀ (l : List (DataW H)), l.length ≤ Rows.uptoBulkAll l
  | [] => Nat.zero_le _
  | d :: r => by
    have := bulk_pos d
    have := bulk_len r
    rw [Rows.uptoBulkAll, List.length_cons]
    omega
theorem bulk_mem {H : Type} {d : DataW H} : ∀ {l : List (DataW H)}, d ∈ l → Rows.uptoBulk d ≤ Rows.uptoBulkAll l
  | e :: r, h => by
    rw [Rows.uptoBulkAll]
    rcases List.mem_cons.1 h with rfl | h
    · omega
    · have := bulk_mem h
      omega
end TF
end Go.Proofs.YtiggdojppfblkaaGreatDoor
end

section
/- Layer 6: the contracts of the document's Same, Right. -/
namespace Go.Proofs.YtiggdojppfblkaaGreatDoor
open Go.RowKit Go.Lib Go.BigFrame
namespace TR
open OM TP TM

theorem str_eq (a b : List UInt8) : ((⟨a.toArray⟩ : ByteArray).toList == (⟨b.toArray⟩ : ByteArray).toList) = decide (a = b) := by
  rw [Lib.toList_data, Lib.toList_data, Bool.eq_iff_iff]
  simp
theorem eq_nd (a b : Nd) (W : World) : (Op.equalIn 10000 25 (ndVal a) (ndVal b)).run Tryz.prog W = .ok (decide (a = b)) W := by
  unfold ndVal
  rw [run_equalIn_struct W 9999 25 _ _ (by kernel_rfl) (by kernel_rfl)]
  have names : (Tryz.prog.fieldsOf 25).toList.map (fun f => (f.name, f.type, f.offset)) = [("Path", 9, 0), ("Kind", 3, 1), ("Data", 9, 2), ("Mode", 3, 3)] := by kernel_rfl
  obtain ⟨f0, f1, f2, f3, e⟩ : ∃ f0 f1 f2 f3, (Tryz.prog.fieldsOf 25).toList = [f0, f1, f2, f3] := by
    have hl := congrArg List.length names
    rw [List.length_map] at hl
    match h : (Tryz.prog.fieldsOf 25).toList, hl with
    | [f0, f1, f2, f3], _ => exact ⟨f0, f1, f2, f3, rfl⟩
  rw [e] at names
  simp only [List.map_cons, List.map_nil, List.cons.injEq, Prod.mk.injEq, and_true] at names
  obtain ⟨⟨n0, t0, o0⟩, ⟨n1, t1, o1⟩, ⟨n2, t2, o2⟩, n3, t3, o3⟩ := names
  rw [e]
  unfold txt
  have s1 := str_eq a.path b.path
  have s2 := str_eq a.data b.data
  obtain ⟨p, k, d, m⟩ := a
  obtain ⟨p', k', d', m'⟩ := b
  simp only at s1 s2 ⊢
  simp [Op.eqFields, go_sem, n0, n1, n2, n3, t0, t1, t2, t3, o0, o1, o2, o3, Tryz.underlying9, Tryz.underlying3]
  by_cases h1 : p = p' <;> by_cases h2 : k = k' <;> by_cases h3 : d = d' <;> by_cases h4 : m = m' <;> simp [h1, h2, h3, h4]
end TR
end Go.Proofs.YtiggdojppfblkaaGreatDoor
end

section
/- Layer 6: the contracts of the program's Same, Differ. -/
namespace Go.Proofs.YtiggdojppfblkaaGreatDoor
open Go.RowKit Go.Lib Go.BigFrame
namespace TG
open OM TP TM TR

set_option maxRecDepth 100000 in
set_option maxHeartbeats 1600000 in
theorem equal_any (ao bo : Option Addr) (ca cb : Nat) (xs ys : List Nd) (w : World) (ha : LayN w ao xs) (hb : LayN w bo ys) (la : xs.length ≤ maxLen) (lb : ys.length ≤ maxLen) :
    Calls Tryz.prog 49 #[.slice ao xs.length ca, .slice bo ys.length cb] w fun r w' => r = .returned (.bool (decide (xs = ys))) ∧ Below w.heap.size w w' := by
  obtain ⟨n, hn⟩ : ∃ n, xs.length = n := ⟨_, rfl⟩
  obtain ⟨m, hm⟩ : ∃ m, ys.length = m := ⟨_, rfl⟩
  have HN := Lib.hid hn
  have HM := Lib.hid hm
  have HA := Lib.hid ha
  have HB := Lib.hid hb
  unfold maxLen at la lb
  rw [hn] at la ⊢
  rw [hm] at lb ⊢
  have hnz : (n : Int) ≤ 9223372036854775807 := by omega
  clear ha hb
  by_cases hnm : n = m
  · subst hnm
    clear hn hm la lb
    go_enter Tryz.func49, Tryz.ntmps49
    repeat (first | go_skip | go_guarded | go_step | go_upon)
    go_loopw [13] (fun s3 wr => ∃ k : Nat, s3 = .int .i64 k ∧ k ≤ n ∧ xs.take k = ys.take k ∧ Below w.heap.size w wr) (fun s3 _ => n - (Go.RowKit.intOf s3).toNat)
    case atStart => exact ⟨0, rfl, Nat.zero_le _, rfl, Below.refl _ _⟩
    case round =>
      obtain ⟨k, rfl, hk, ht, hbl⟩ := hrel
      have HT := Lib.hid ht
      have HW := Lib.hid hbl
      have HAr := Lib.hid (HA.out.below hbl)
      have HBr := Lib.hid (HB.out.below hbl)
      clear ht hbl
      by_cases hlt : k < n
      · have hkz : (k : Int) < n := by omega
        obtain ⟨g1, o1, rfl, _, hc1⟩ := HAr.out (by rw [HN.out]; omega)
        obtain ⟨g2, o2, rfl, _, hc2⟩ := HBr.out (by rw [HM.out]; omega)
        obtain ⟨x, hx⟩ : ∃ x, xs[k]? = some x := ⟨xs[k]'(by rw [HN.out]; exact hlt), List.getElem?_eq_getElem _⟩
        obtain ⟨y, hy⟩ : ∃ y, ys[k]? = some y := ⟨ys[k]'(by rw [HM.out]; exact hlt), List.getElem?_eq_getElem _⟩
        obtain ⟨x0, x1, x2, x3⟩ := hc1 k x hx
        obtain ⟨y0, y1, y2, y3⟩ := hc2 k y hy
        have he := fun W => eq_nd x y W
        unfold ndVal at he
        obtain ⟨xp, hxp⟩ : ∃ v, txt x.path = v := ⟨_, rfl⟩
        obtain ⟨xd, hxd⟩ : ∃ v, txt x.data = v := ⟨_, rfl⟩
        obtain ⟨yp, hyp⟩ : ∃ v, txt y.path = v := ⟨_, rfl⟩
        obtain ⟨yd, hyd⟩ : ∃ v, txt y.data = v := ⟨_, rfl⟩
        obtain ⟨S1, e1⟩ : ∃ S, xp = .string S := ⟨_, hxp.symm⟩
        obtain ⟨S2, e2⟩ : ∃ S, xd = .string S := ⟨_, hxd.symm⟩
        obtain ⟨S3, e3⟩ : ∃ S, yp = .string S := ⟨_, hyp.symm⟩
        obtain ⟨S4, e4⟩ : ∃ S, yd = .string S := ⟨_, hyd.symm⟩
        rw [hxp, hxd, hyp, hyd, e1, e2, e3, e4] at he
        rw [hxp, e1] at x0
        rw [hxd, e2] at x2
        rw [hyp, e3] at y0
        rw [hyd, e4] at y2
        by_cases hxy : x = y
        · have HT2 : Hid (xs.take (k + 1) = ys.take (k + 1)) := Lib.hid (by rw [List.take_add_one, List.take_add_one, HT.out, hx, hy, hxy])
          rw [decide_eq_true hxy] at he
          clear hc1 hc2 hx hy hxy hxp hxd hyp hyd e1 e2 e3 e4
          repeat (first | go_skip | go_guarded | go_step | go_upon)
          go_quiet (fail)
          rename_i nq
          have HW3 : Hid (Below w.heap.size w (wr.drewN nq)) := Lib.hid ⟨HW.out.os, HW.out.tape, HW.out.output, HW.out.size, HW.out.block⟩
          clear x0 x1 x2 x3 y0 y1 y2 y3 he
          generalize wr.drewN nq = w3 at HW3 ⊢
          repeat (first | go_skip | go_guarded | go_step | go_upon)
          exact ⟨⟨k + 1, by go_num, by omega, HT2.out, HW3.out⟩, by simp [Go.RowKit.intOf]; omega⟩
        · have HF : Hid (decide (xs = ys) = false) := Lib.hid (by
            rw [decide_eq_false]
            intro e
            rw [e, hy] at hx
            exact hxy (Option.some.inj hx).symm)
          rw [decide_eq_false hxy] at he
          clear hc1 hc2 hx hy hxy hxp hxd hyp hyd e1 e2 e3 e4
          repeat (first | go_skip | go_guarded | go_step | go_upon)
          go_quiet (fail)
          rename_i nq
          have HW3 : Hid (Below w.heap.size w (wr.drewN nq)) := Lib.hid ⟨HW.out.os, HW.out.tape, HW.out.output, HW.out.size, HW.out.block⟩
          clear x0 x1 x2 x3 y0 y1 y2 y3 he
          generalize wr.drewN nq = w3 at HW3 ⊢
          repeat (first | go_skip | go_guarded | go_step | go_upon)
          go_ret
          exact ⟨by rw [HF.out]; rfl, HW3.out⟩
      · have hkz : ¬ (k : Int) < n := by omega
        have HF : Hid (decide (xs = ys) = true) := Lib.hid (by
          rw [decide_eq_true]
          have := HT.out
          rw [List.take_of_length_le (by rw [HN.out]; omega), List.take_of_length_le (by rw [HM.out]; omega)] at this
          exact this)
        clear hlt
        repeat (first | go_skip | go_guarded | go_step | go_upon)
        go_ret
        exact ⟨by rw [HF.out]; rfl, HW.out⟩
  · have HF : Hid (decide (xs = ys) = false) := Lib.hid (decide_eq_false fun e => hnm (by rw [← hn, ← hm, e]))
    have hb : ((n : Int) == (m : Int)) = false := by simp; omega
    clear hn hm la lb hnm
    go_enter Tryz.func49, Tryz.ntmps49
    repeat (first | go_skip | go_guarded | go_step | go_upon)
    go_ret
    exact ⟨by rw [HF.out]; rfl, Below.refl _ _⟩
set_option maxRecDepth 100000 in
theorem same_any (ao bo : Option Addr) (ca cb : Nat) (xs ys : List Nd) (w : World) (ha : LayN w ao xs) (hb : LayN w bo ys) (la : xs.length ≤ maxLen) (lb : ys.length ≤ maxLen) :
    Calls Tryz.prog 24 #[.slice ao xs.length ca, .slice bo ys.length cb] w fun r w' => r = .returned (.bool (decide (xs = ys))) ∧ Below w.heap.size w w' := by
  have CE := Lib.hid (equal_any ao bo ca cb xs ys w ha hb la lb)
  obtain ⟨n, hn⟩ : ∃ n, xs.length = n := ⟨_, rfl⟩
  obtain ⟨m, hm⟩ : ∃ m, ys.length = m := ⟨_, rfl⟩
  obtain ⟨b, hbb⟩ : ∃ b, decide (xs = ys) = b := ⟨_, rfl⟩
  rw [hn, hm, hbb] at CE ⊢
  clear ha hb la lb hn hm hbb
  go_enter Tryz.func24, Tryz.ntmps24
  repeat (first | (go_at_call 49; refine CE.out.mono ?_; rintro r w1 ⟨rfl, hb⟩; simp only []; have B1 := Lib.hid hb; clear hb) | go_skip | go_guarded | go_step | go_upon)
  go_ret
  exact ⟨rfl, B1.out⟩
end TG
end Go.Proofs.YtiggdojppfblkaaGreatDoor
end

section
/- Layer 6: the contracts of rightNode, Check, Right for lists of texts of any length. -/
namespace Go.Proofs.YtiggdojppfblkaaGreatDoor
open Go.RowKit Go.Lib Go.BigFrame
namespace TW
open OM TP TM TR TG

def LongG (ts : List Nd) : Prop := ∀ n ∈ ts, n.path.length ≤ maxLen
theorem small_right {n : Nd} (h : rightB n = true) : n.data.length ≤ 1048576 := by
  unfold rightB at h
  split at h
  · simp only [Bool.and_eq_true, decide_eq_true_eq] at h; omega
  · split at h
    · simp only [Bool.and_eq_true, decide_eq_true_eq] at h; rw [h.1]; simp
    · split at h
      · simp only [Bool.and_eq_true, decide_eq_true_eq] at h; omega
      · cases h
theorem small_path {q : List UInt8} (h : NP.pathL q = true) : q.length ≤ 1048576 := by have := ((path_iff q).1 h).1; omega
theorem small_tree {t : List Nd} (h : Tree t) : SmallG t := fun n hn => ⟨small_path (h.path n hn), small_right (h.right n hn)⟩
theorem small_val {v : List Nd} (h : Val v) : SmallG v := fun n hn => ⟨by
  rcases h.path n hn with e | e
  · rw [e]; simp
  · exact small_path e, small_right (h.right n hn)⟩
theorem path_wide (S : ByteArray) (l : List UInt8) (w : World) (he : NF.Env w) (hS : S.data.toList = l) (h : l.length ≤ maxLen) :
    Calls Tryz.prog 50 #[.string S] w fun e w' => e = .returned (.bool (NP.pathL l)) ∧ Below w.heap.size w w' := by
  subst hS
  exact NF.path_any S w he (by rw [Lib.size_eq]; exact h)
set_option maxRecDepth 100000 in
set_option maxHeartbeats 3200000 in
theorem right_wide (n : Nd) (w : World) : Calls Tryz.prog 51 #[ndVal n] w fun r w' => r = .returned (.bool (rightB n)) ∧ Below w.heap.size w w' := by
  obtain ⟨p, k, d, m⟩ := n
  unfold ndVal txt
  simp only
  obtain ⟨S, hS⟩ : ∃ S : ByteArray, ⟨d.toArray⟩ = S := ⟨_, rfl⟩
  have hSd : S.data.toList = d := by rw [← hS]
  obtain ⟨dl, hdl⟩ : ∃ dl, d.length = dl := ⟨_, rfl⟩
  have hSz : S.size = dl := by rw [Lib.size_eq, hSd]; exact hdl
  obtain ⟨bc, hbc⟩ : ∃ b, d.contains 0 = b := ⟨_, rfl⟩
  have CC : Hid (∀ W, Calls Tryz.prog 84 #[.string S, .string ⟨#[0]⟩] W fun e w' => e = .returned (.bool bc) ∧ w' = W) := Lib.hid (fun W => by
    have := Tryz.strings_Contains_one S 0 W
    rw [idx_contains, hSd, hbc] at this
    exact this)
  rw [hS]
  have B0 : Hid (Below w.heap.size w (w.alloc (.cells #[.string ⟨p.toArray⟩, .int .i64 k, .string S, .int .i64 m] 25))) := Lib.hid ((Below.refl _ _).alloc (Nat.le_refl _) _)
  by_cases h1 : k = 1
  · have k1 : (k == 1) = true := by simp [h1]
    have HR : Hid (rightB ⟨p, k, d, m⟩ = (decide (dl ≤ 65536) && decide (0 ≤ m) && decide (m ≤ 511))) := Lib.hid (by unfold rightB; simp only; rw [if_pos h1, hdl])
    clear hS hSd hdl h1 hbc
    by_cases a1 : dl ≤ 65536
    · have b1 : (dl : Int) ≤ 65536 := by omega
      have b1d : decide ((dl : Int) ≤ 65536) = true := decide_eq_true b1
      by_cases a2 : 0 ≤ m
      · have b2d : decide (0 ≤ m) = true := decide_eq_true a2
        by_cases a3 : m ≤ 511
        · have HB : Hid (rightB ⟨p, k, d, m⟩ = true) := Lib.hid (by rw [HR.out, decide_eq_true a1, decide_eq_true a2, decide_eq_true a3]; rfl)
          clear a1
          go_enter Tryz.func51, Tryz.ntmps51
          repeat (first | go_skip | go_guarded | go_step | go_upon)
          go_ret
          exact ⟨by rw [HB.out]; simp [a3], B0.out⟩
        · have HB : Hid (rightB ⟨p, k, d, m⟩ = false) := Lib.hid (by rw [HR.out, decide_eq_false a3]; simp)
          clear a1
          go_enter Tryz.func51, Tryz.ntmps51
          repeat (first | go_skip | go_guarded | go_step | go_upon)
          go_ret
          exact ⟨by rw [HB.out]; simp [a3], B0.out⟩
      · have b2d : decide (0 ≤ m) = false := decide_eq_false a2
        have HB : Hid (rightB ⟨p, k, d, m⟩ = false) := Lib.hid (by rw [HR.out, decide_eq_false a2]; simp)
        clear a1
        go_enter Tryz.func51, Tryz.ntmps51
        repeat (first | go_skip | go_guarded | go_step | go_upon)
        go_ret
        exact ⟨by rw [HB.out]; rfl, B0.out⟩
    · have b1 : ¬ (dl : Int) ≤ 65536 := by omega
      have b1d : decide ((dl : Int) ≤ 65536) = false := decide_eq_false b1
      have HB : Hid (rightB ⟨p, k, d, m⟩ = false) := Lib.hid (by rw [HR.out, decide_eq_false a1]; simp)
      clear a1
      go_enter Tryz.func51, Tryz.ntmps51
      repeat (first | go_skip | go_guarded | go_step | go_upon)
      go_ret
      exact ⟨by rw [HB.out]; rfl, B0.out⟩
  · have k1 : (k == 1) = false := by simp [h1]
    by_cases h2 : k = 2
    · have k2 : (k == 2) = true := by simp [h2]
      have HR : Hid (rightB ⟨p, k, d, m⟩ = (decide (d = []) && decide (m = 0))) := Lib.hid (by unfold rightB; simp only; rw [if_neg h1, if_pos h2])
      clear hdl h1 h2 hSz hbc
      by_cases a1 : d = []
      · have b1 : S.toList.isEmpty = true := by rw [Lib.toList_data, hSd, a1]; rfl
        obtain ⟨b2, hb2⟩ : ∃ b2, (m == 0) = b2 := ⟨_, rfl⟩
        have HB : Hid (rightB ⟨p, k, d, m⟩ = b2) := Lib.hid (by rw [HR.out, decide_eq_true a1, ← hb2, Bool.true_and, Bool.eq_iff_iff]; simp)
        clear a1 hS hSd
        go_enter Tryz.func51, Tryz.ntmps51
        repeat (first | go_skip | go_guarded | go_step | go_upon)
        go_ret
        exact ⟨by rw [HB.out]; rfl, B0.out⟩
      · have b1 : S.toList.isEmpty = false := by rw [Lib.toList_data, hSd]; simp [a1]
        have HB : Hid (rightB ⟨p, k, d, m⟩ = false) := Lib.hid (by rw [HR.out, decide_eq_false a1]; simp)
        clear a1 hS hSd
        go_enter Tryz.func51, Tryz.ntmps51
        repeat (first | go_skip | go_guarded | go_step | go_upon)
        go_ret
        exact ⟨by rw [HB.out]; rfl, B0.out⟩
    · have k2 : (k == 2) = false := by simp [h2]
      by_cases h3 : k = 3
      · have k3 : (k == 3) = true := by simp [h3]
        have HR : Hid (rightB ⟨p, k, d, m⟩ = (!bc && decide (1 ≤ dl) && decide (dl ≤ 400) && decide (m = 0))) := Lib.hid (by unfold rightB; simp only; rw [if_neg h1, if_neg h2, if_pos h3, hdl, hbc])
        have hemp : S.toList.isEmpty = decide (dl = 0) := by rw [Lib.toList_data, hSd, ← hdl, Bool.eq_iff_iff]; simp
        clear hS hSd hdl h1 h2 h3 hbc
        by_cases a1 : 1 ≤ dl
        · have b1 : S.toList.isEmpty = false := by rw [hemp, decide_eq_false (by omega)]
          by_cases a2 : dl ≤ 400
          · have b2 : (dl : Int) ≤ 400 := by omega
            have b2d : decide ((dl : Int) ≤ 400) = true := decide_eq_true b2
            cases bc with
            | true =>
              have HB : Hid (rightB ⟨p, k, d, m⟩ = false) := Lib.hid (by rw [HR.out]; simp)
              clear a1 a2 hemp HR
              go_enter Tryz.func51, Tryz.ntmps51
              repeat (first | (go_at_call 84; refine (CC.out _).mono ?_; rintro r w1 ⟨rfl, rfl⟩; simp only []) | go_skip | go_guarded | go_step | go_upon)
              go_ret
              exact ⟨by rw [HB.out]; rfl, B0.out⟩
            | false =>
              obtain ⟨b3, hb3⟩ : ∃ b3, (m == 0) = b3 := ⟨_, rfl⟩
              have HB : Hid (rightB ⟨p, k, d, m⟩ = b3) := Lib.hid (by rw [HR.out, decide_eq_true a1, decide_eq_true a2, ← hb3, Bool.eq_iff_iff]; simp)
              clear a1 a2 hemp HR
              go_enter Tryz.func51, Tryz.ntmps51
              repeat (first | (go_at_call 84; refine (CC.out _).mono ?_; rintro r w1 ⟨rfl, rfl⟩; simp only []) | go_skip | go_guarded | go_step | go_upon)
              go_ret
              exact ⟨by rw [HB.out]; rfl, B0.out⟩
          · have b2 : ¬ (dl : Int) ≤ 400 := by omega
            have b2d : decide ((dl : Int) ≤ 400) = false := decide_eq_false b2
            have HB : Hid (rightB ⟨p, k, d, m⟩ = false) := Lib.hid (by rw [HR.out, decide_eq_false a2]; simp)
            clear a1 a2 hemp HR
            go_enter Tryz.func51, Tryz.ntmps51
            repeat (first | go_skip | go_guarded | go_step | go_upon)
            go_ret
            exact ⟨by rw [HB.out]; rfl, B0.out⟩
        · have b1 : S.toList.isEmpty = true := by rw [hemp, decide_eq_true (by omega)]
          have HB : Hid (rightB ⟨p, k, d, m⟩ = false) := Lib.hid (by rw [HR.out, decide_eq_false a1]; simp)
          clear a1 hemp HR
          go_enter Tryz.func51, Tryz.ntmps51
          repeat (first | go_skip | go_guarded | go_step | go_upon)
          go_ret
          exact ⟨by rw [HB.out]; rfl, B0.out⟩
      · have k3 : (k == 3) = false := by simp [h3]
        have HB : Hid (rightB ⟨p, k, d, m⟩ = false) := Lib.hid (by unfold rightB; simp only; rw [if_neg h1, if_neg h2, if_neg h3])
        clear hS hSd hdl h1 h2 h3 hbc
        go_enter Tryz.func51, Tryz.ntmps51
        repeat (first | go_skip | go_guarded | go_step | go_upon)
        go_ret
        exact ⟨by rw [HB.out]; rfl, B0.out⟩
set_option maxRecDepth 100000 in
set_option maxHeartbeats 6400000 in
theorem check_wide (ao : Option Addr) (cap : Nat) (ts : List Nd) (w : World) (he : NF.Env w) (h : LayN w ao ts) (hs : LongG ts) (hl : ts.length ≤ maxLen) (hcap : ts.length ≤ cap) :
    Calls Tryz.prog 25 #[.slice ao ts.length cap] w fun r w' => r = .returned (.int .i64 (checkG ts : Nat)) ∧ Below w.heap.size w w' := by
  obtain ⟨n, hn⟩ : ∃ n, ts.length = n := ⟨_, rfl⟩
  have HN := Lib.hid hn
  have HL := Lib.hid h
  have HSm := Lib.hid hs
  have HE := Lib.hid he
  unfold maxLen at hl
  rw [hn] at hl hcap ⊢
  have hnz : (n : Int) ≤ 9223372036854775807 := by omega
  by_cases h0 : n ≤ 1000
  · have h0z : ¬ (1000 : Int) < n := by omega
    clear h hn hl hs he
    go_enter Tryz.func25, Tryz.ntmps25
    repeat (first | go_skip | go_guarded | go_step | go_upon)
    go_loopw [10] (fun s10 wr => ∃ k : Nat, s10 = .int .i64 k ∧ k ≤ n ∧ treeB (ts.take k) = true ∧ Below w.heap.size w wr) (fun s10 _ => n - (Go.RowKit.intOf s10).toNat)
    case atStart => exact ⟨0, rfl, Nat.zero_le _, rfl, Below.refl _ _⟩
    case round =>
      obtain ⟨k, rfl, hk, ht, hb⟩ := hrel
      have HT := Lib.hid ht
      have HB := Lib.hid hb
      have hbs := hb.size
      have HLr := Lib.hid (HL.out.below hb)
      have HEr := Lib.hid (HE.out.below hb)
      clear ht hb
      by_cases hlt : k < n
      · have hkz : (k : Int) < n := by omega
        obtain ⟨g, o, rfl, hg, hcell⟩ := HLr.out (by rw [HN.out]; omega)
        obtain ⟨x, hx⟩ : ∃ x, ts[k]? = some x := ⟨ts[k]'(by rw [HN.out]; exact hlt), List.getElem?_eq_getElem _⟩
        have hmem := List.mem_of_getElem? hx
        have hs1 := HSm.out x hmem
        obtain ⟨c0, c1, c2, c3⟩ := hcell k x hx
        obtain ⟨X, hX, hXd⟩ := txt_of x.path
        obtain ⟨D, hD, _⟩ := txt_of x.data
        obtain ⟨kx, hkx⟩ : ∃ kx, x.kind = kx := ⟨_, rfl⟩
        obtain ⟨mx, hmx⟩ : ∃ mx, x.mode = mx := ⟨_, rfl⟩
        rw [hX] at c0
        rw [hkx] at c1
        rw [hD] at c2
        rw [hmx] at c3
        obtain ⟨wa, hwa⟩ : ∃ wa, wr.alloc (.cells #[.string X, .int .i64 kx, .string D, .int .i64 mx] 25) = wa := ⟨_, rfl⟩
        have hba : Below wr.heap.size wr wa := by rw [← hwa]; exact (Below.refl _ _).alloc (Nat.le_refl _) _
        obtain ⟨a0, a1, a2, a3⟩ := box4 wr (.string X) (.int .i64 kx) (.string D) (.int .i64 mx) 25
        rw [hwa] at a0 a1 a2 a3
        have HBa := Lib.hid (Below.trans HB.out (hba.mono hbs))
        have HEa := Lib.hid (HEr.out.below hba)
        have HLa := Lib.hid (HLr.out.below hba)
        obtain ⟨b1, hb1⟩ : ∃ b, NP.pathL x.path = b := ⟨_, rfl⟩
        obtain ⟨b2, hb2⟩ : ∃ b, rightB x = b := ⟨_, rfl⟩
        obtain ⟨b3, hb3⟩ : ∃ b, goesB (ts.take k) x.path = b := ⟨_, rfl⟩
        have HStep : Hid (treeB (ts.take (k + 1)) = (b1 && b2 && b3)) := Lib.hid (by rw [tree_step hx HT.out (by rw [HN.out]; exact h0), hb1, hb2, hb3])
        have D1 := Lib.hid (reg_g (w := wa) (f := 50) (args := #[.string X]) (v := .bool b1) (fun W hW => by
          have := path_wide X x.path W (HEa.out.below hW) hXd hs1
          rw [hb1] at this
          exact this))
        have D2 := Lib.hid (reg_g (w := wa) (f := 51) (args := #[.agg #[.string X, .int .i64 kx, .string D, .int .i64 mx]]) (v := .bool b2) (fun W hW => by
          have := right_wide x W
          unfold ndVal at this
          rw [hX, hD, hkx, hmx, hb2] at this
          exact this))
        have D3 := Lib.hid (fun (hbt : b1 = true) => reg_g (w := wa) (f := 52) (args := #[.slice (some ⟨g, o, none⟩) k cap, .string X]) (v := .bool b3) (fun W hW => by
          have hkl : (ts.take k).length = k := by rw [List.length_take, HN.out]; omega
          have := goes_any (some ⟨g, o, none⟩) cap (ts.take k) x.path W (HEa.out.below hW) ((HLa.out.below hW).take k) ((tree_iff _).1 HT.out).sorted (small_tree ((tree_iff _).1 HT.out)) (by rw [hkl]; omega) (small_path (hb1.trans hbt))
          rw [hkl, hX, hb3] at this
          exact this))
        have hsl := sl_to ndsl_node (some ⟨g, o, none⟩) n k cap k rfl (by omega)
        have fa0 := cell_regrown a0
        have fa1 := cell_regrown a1
        have fa2 := cell_regrown a2
        have fa3 := cell_regrown a3
        clear hcell hX hXd hD hkx hmx hb1 hb2 hb3 hx hmem hs1 hlt
        repeat (first | go_skip | go_guarded | go_step | go_upon)
        cases b1 with
        | false =>
          have HF : Hid (checkG ts = 60) := Lib.hid (check_no (tree_stop (k := k + 1) (by rw [HStep.out]; rfl)))
          with_reducible refine wp_region_quiet_below (by kernel_rfl) (by kernel_rfl) ?_
          repeat (go_big_quiet_step (first | (go_at_call 50; exact D1.out _ _) | (go_at_call 51; exact D2.out _ _) | (go_at_call 52; exact D3.out rfl _ _)))
          refine wpQuiet_nil ?_
          intro _ hw'
          obtain ⟨⟨dq, osq⟩, hw''⟩ := hw'
          subst hw''
          have W5 : Hid (Below wa.heap.size wa (Go.Sort.grow (redrawn wa dq) osq)) := Lib.hid (below_regrown wa dq osq)
          clear fa0 fa1 fa2 fa3 a0 a1 a2 a3 hwa
          generalize Go.Sort.grow (redrawn wa dq) osq = w5 at W5 ⊢
          repeat (first | go_skip | go_guarded | go_step | go_upon)
          go_ret
          exact ⟨by rw [HF.out]; rfl, Below.trans HBa.out (W5.out.mono HBa.out.size)⟩
        | true =>
          cases b2 with
          | false =>
            have HF : Hid (checkG ts = 60) := Lib.hid (check_no (tree_stop (k := k + 1) (by rw [HStep.out]; rfl)))
            with_reducible refine wp_region_quiet_below (by kernel_rfl) (by kernel_rfl) ?_
            repeat (go_big_quiet_step (first | (go_at_call 50; exact D1.out _ _) | (go_at_call 51; exact D2.out _ _) | (go_at_call 52; exact D3.out rfl _ _)))
            refine wpQuiet_nil ?_
            intro _ hw'
            obtain ⟨⟨dq, osq⟩, hw''⟩ := hw'
            subst hw''
            have W5 : Hid (Below wa.heap.size wa (Go.Sort.grow (redrawn wa dq) osq)) := Lib.hid (below_regrown wa dq osq)
            clear fa0 fa1 fa2 fa3 a0 a1 a2 a3 hwa
            generalize Go.Sort.grow (redrawn wa dq) osq = w5 at W5 ⊢
            repeat (first | go_skip | go_guarded | go_step | go_upon)
            go_ret
            exact ⟨by rw [HF.out]; rfl, Below.trans HBa.out (W5.out.mono HBa.out.size)⟩
          | true =>
            cases b3 with
            | false =>
              have HF : Hid (checkG ts = 60) := Lib.hid (check_no (tree_stop (k := k + 1) (by rw [HStep.out]; rfl)))
              with_reducible refine wp_region_quiet_below (by kernel_rfl) (by kernel_rfl) ?_
              repeat (go_big_quiet_step (first | (go_at_call 50; exact D1.out _ _) | (go_at_call 51; exact D2.out _ _) | (go_at_call 52; exact D3.out rfl _ _)))
              refine wpQuiet_nil ?_
              intro _ hw'
              obtain ⟨⟨dq, osq⟩, hw''⟩ := hw'
              subst hw''
              have W5 : Hid (Below wa.heap.size wa (Go.Sort.grow (redrawn wa dq) osq)) := Lib.hid (below_regrown wa dq osq)
              clear fa0 fa1 fa2 fa3 a0 a1 a2 a3 hwa
              generalize Go.Sort.grow (redrawn wa dq) osq = w5 at W5 ⊢
              repeat (first | go_skip | go_guarded | go_step | go_upon)
              go_ret
              exact ⟨by rw [HF.out]; rfl, Below.trans HBa.out (W5.out.mono HBa.out.size)⟩
            | true =>
              with_reducible refine wp_region_quiet_below (by kernel_rfl) (by kernel_rfl) ?_
              repeat (go_big_quiet_step (first | (go_at_call 50; exact D1.out _ _) | (go_at_call 51; exact D2.out _ _) | (go_at_call 52; exact D3.out rfl _ _)))
              refine wpQuiet_nil ?_
              intro _ hw'
              obtain ⟨⟨dq, osq⟩, hw''⟩ := hw'
              subst hw''
              have W5 : Hid (Below wa.heap.size wa (Go.Sort.grow (redrawn wa dq) osq)) := Lib.hid (below_regrown wa dq osq)
              clear fa0 fa1 fa2 fa3 a0 a1 a2 a3 hwa
              generalize Go.Sort.grow (redrawn wa dq) osq = w5 at W5 ⊢
              repeat (first | go_skip | go_guarded | go_step | go_upon)
              exact ⟨⟨k + 1, by go_num, by omega, HStep.out, Below.trans HBa.out (W5.out.mono HBa.out.size)⟩, by simp [Go.RowKit.intOf]; omega⟩
      · have hkz : ¬ (k : Int) < n := by omega
        have HF : Hid (checkG ts = 0) := Lib.hid (check_yes (by
          have := HT.out
          rw [List.take_of_length_le (by rw [HN.out]; omega)] at this
          exact this))
        clear hlt
        repeat (first | go_skip | go_guarded | go_step | go_upon)
        go_ret
        exact ⟨by rw [HF.out]; rfl, HB.out⟩
  · have h0z : (1000 : Int) < n := by omega
    have HB : Hid (checkG ts = 60) := Lib.hid (check_no (by unfold treeB; rw [hn, decide_eq_false h0]; rfl))
    clear h hn hl hs h0 he
    go_enter Tryz.func25, Tryz.ntmps25
    repeat (first | go_skip | go_guarded | go_step | go_upon)
    go_ret
    exact ⟨by rw [HB.out]; rfl, Below.refl _ _⟩
/-- A list of nodes as it comes in, its texts of any length. -/
structure Wide (w : World) (ao : Option Addr) (ca : Nat) (ts : List Nd) : Prop where
  lay : LayN w ao ts
  no : ao = none → ca = 0
  cap : ts.length ≤ ca
  long : LongG ts
  max : ts.length ≤ maxLen
theorem Wide.nil (w : World) : Wide w none 0 [] := ⟨LayN.nil _ _, fun _ => rfl, Nat.le_refl _, fun n hn => by simp at hn, by simp⟩
theorem Wide.below {w W : World} {ao : Option Addr} {ca : Nat} {ts : List Nd} (h : Wide w ao ca ts) (hb : Below w.heap.size w W) : Wide W ao ca ts := ⟨h.lay.below hb, h.no, h.cap, h.long, h.max⟩
theorem Wide.check {w : World} {ao : Option Addr} {ca : Nat} {ts : List Nd} (he : NF.Env w) (h : Wide w ao ca ts) :
    Calls Tryz.prog 25 #[.slice ao ts.length ca] w fun r w' => r = .returned (.int .i64 (checkG ts : Nat)) ∧ Below w.heap.size w w' := check_wide ao ca ts w he h.lay h.long h.max h.cap
end TW
open Go.ChangeShapes Go.WideShapes Go.ChangeAt
namespace TF
open OM TP TM TR TG TW

theorem nodes_wide {H : Type} {enc : TypeId × Value → H} {W : World} {spare : Nat → Bool} {held : Bool} {fuel len cap : Nat} {a0 : Option Addr} {x : DataW H × List MemPlace}
    (h : DataW.trod enc Tryz.prog W 0 spare held fuel 22 (Value.slice a0 len cap).cells.toList = some x) :
    ∃ ts : List Nd, ts.length = len ∧ Wide W a0 cap ts := by
  rcases open_fours Tryz.underlying22 Tryz.underlying25 (by kernel_rfl) rfl rfl rfl rfl (by kernel_rfl) (by kernel_rfl) (by kernel_rfl) (by kernel_rfl) h with hcs | ⟨ad, len', cap', n, D, sp, hcs, hl, hm, hx, hcell⟩
  · simp [Value.cells] at hcs
    obtain ⟨rfl, rfl, rfl⟩ := hcs
    exact ⟨[], rfl, Wide.nil W⟩
  · simp [Value.cells] at hcs
    obtain ⟨rfl, rfl, rfl⟩ := hcs
    have hlen : len ≤ maxLen := Nat.le_trans hl hm
    have hch : ∀ i, i < len → ∃ r : Nd, W.cell? (ad.add (i * 4)) = some (txt r.path) ∧ W.cell? (ad.add (i * 4 + 1)) = some (.int .i64 r.kind) ∧ W.cell? (ad.add (i * 4 + 2)) = some (txt r.data) ∧ W.cell? (ad.add (i * 4 + 3)) = some (.int .i64 r.mode) ∧ r.path.length ≤ maxLen := by
      intro i hi
      obtain ⟨v0, v1, v2, v3, y0, y1, y2, y3, e0, e1, e2, e3, hD, t0, t1, t2, t3⟩ := hcell i hi
      obtain ⟨s0, f0, g0, w0⟩ := DataW.trod_string (by exact Tryz.underlying9) t0
      obtain ⟨k1, f1, _, _⟩ := DataW.trod_int (by exact Tryz.underlying3) t1
      obtain ⟨s2, f2, g2, w2⟩ := DataW.trod_string (by exact Tryz.underlying9) t2
      obtain ⟨k3, f3, _, _⟩ := DataW.trod_int (by exact Tryz.underlying3) t3
      simp only [List.cons.injEq, and_true] at f0 f1 f2 f3
      exact ⟨⟨s0.data.toList, k1, s2.data.toList, k3⟩, by rw [e0, f0, txt_data], by rw [e1, f1], by rw [e2, f2, txt_data], by rw [e3, f3], by show s0.data.toList.length ≤ _; rw [← Lib.size_eq]; exact w0⟩
    haveI : Inhabited Nd := ⟨⟨[], 0, [], 0⟩⟩
    obtain ⟨R, hR⟩ := Deep.choose_lt hch
    have hrl : ((List.range len).map R).length = len := by simp
    refine ⟨(List.range len).map R, hrl, fun h0 => ?_, (fun e => by cases e), by rw [hrl]; exact hl, fun m hm => ?_, by rw [hrl]; exact hlen⟩
    · rw [hrl] at h0
      obtain ⟨b, off, spot⟩ := ad
      have c0 := (hR 0 (by omega)).1
      have hspot : spot = none := by simpa [Addr.add] using World.cell?_spot c0
      subst hspot
      rw [add_plain] at c0
      refine ⟨b, off, rfl, (World.block_lt_of_cell? _ _ c0 :), fun k r hk => ?_⟩
      have hkl : k < len := by have := (List.getElem?_eq_some_iff.1 hk).1; rw [hrl] at this; exact this
      rw [List.getElem?_map, List.getElem?_range hkl] at hk
      simp only [Option.map_some, Option.some.injEq] at hk
      subst hk
      obtain ⟨d0, d1, d2, d3, _⟩ := hR k hkl
      rw [add_plain] at d0 d1 d2 d3
      exact ⟨d0, by rw [← d1, Nat.add_assoc], by rw [← d2, Nat.add_assoc], by rw [← d3, Nat.add_assoc]⟩
    · obtain ⟨i, hi, rfl⟩ := List.mem_map.1 hm
      have := hR i (List.mem_range.1 hi)
      exact this.2.2.2.2
end TF
end Go.Proofs.YtiggdojppfblkaaGreatDoor
end

section
/- Layer 9: the contracts of the program's isFingerprint, hasData, belowZero, ContainsFunc over both, IsBare. -/
namespace Go.Proofs.YtiggdojppfblkaaGreatDoor
open Go.RowKit Go.Lib Go.BigFrame
namespace AR
open OM TP TM TG TW AP

def digs : List UInt8 := [48, 49, 50, 51, 52, 53, 54, 55, 56, 57, 97, 98, 99, 100, 101, 102]
theorem isDig_all : ∀ n, n < 256 → digs.contains (UInt8.ofNat n) = isDig (UInt8.ofNat n) := by decide +kernel
theorem isDig_mem (b : UInt8) : digs.contains b = isDig b := by
  have := isDig_all b.toNat b.toNat_lt
  simpa using this
theorem drop_nil {p : UInt8 → Bool} : ∀ {l : List UInt8}, l.dropWhile p = [] ↔ l.all p = true
  | [] => by simp
  | x :: r => by
    have ih := drop_nil (p := p) (l := r)
    by_cases h : p x = true
    · simp [List.dropWhile_cons, h, ih]
    · simp [List.dropWhile_cons, h]
theorem tw_all (p : UInt8 → Bool) : ∀ l : List UInt8, (l.takeWhile p).all p = true
  | [] => rfl
  | x :: r => by
    rw [List.takeWhile_cons]
    cases h : p x with
    | true => simp [h, tw_all p r]
    | false => simp
theorem trim_nil (l : List UInt8) : Lib.trimS l digs = [] ↔ l.all isDig = true := by
  have e : (fun b => digs.contains b) = isDig := funext isDig_mem
  unfold Lib.trimS Lib.trimLeftS Lib.trimRightS
  rw [e, drop_nil, List.all_reverse]
  have h := List.takeWhile_append_dropWhile (p := isDig) (l := l.reverse)
  have ht := tw_all isDig l.reverse
  have ha : l.all isDig = ((l.reverse.takeWhile isDig).all isDig && (l.reverse.dropWhile isDig).all isDig) := by
    rw [← List.all_append, h, List.all_reverse]
  rw [ha, ht]
  simp
set_option maxRecDepth 100000 in
set_option maxHeartbeats 1600000 in
theorem finger_any (s : ByteArray) (l : List UInt8) (w : World) (hS : s.data.toList = l) (hm : l.length ≤ maxLen) :
    Calls Tryz.prog 64 #[.string s] w fun r w' => r = .returned (.bool (fingB l)) ∧ Below w.heap.size w w' := by
  have hz : s.size = l.length := by rw [Lib.size_eq, hS]
  obtain ⟨n, hn⟩ : ∃ n, l.length = n := ⟨_, rfl⟩
  obtain ⟨c, hc⟩ : ∃ c : ByteArray, ⟨digs.toArray⟩ = c := ⟨_, rfl⟩
  have CT := Any.strings_Trim_laid Tryz.lays160 (by kernel_rfl) s c w (by unfold maxLen at hm; omega) (by rw [← hc]; decide) (by rw [← hc]; exact ascii_of_all (by decide))
  obtain ⟨T, hT⟩ : ∃ T : ByteArray, ⟨(Lib.trimS s.data.toList c.data.toList).toArray⟩ = T := ⟨_, rfl⟩
  have hTd : T.data.toList = Lib.trimS l digs := by rw [← hT, ← hc, hS]
  rw [hT] at CT
  have CT := Lib.hid CT
  have hcl : c = ⟨#[48, 49, 50, 51, 52, 53, 54, 55, 56, 57, 97, 98, 99, 100, 101, 102]⟩ := by rw [← hc]; rfl
  rw [hcl] at CT
  obtain ⟨b, hb⟩ : ∃ b, l.all isDig = b := ⟨_, rfl⟩
  have hTe : (T.toList == ByteArray.toList ⟨#[]⟩) = b := by
    rw [Lib.toList_data, hTd, ← hb, Bool.eq_iff_iff, beq_iff_eq, Lib.toList_data]
    exact trim_nil l
  have hTi : T.toList.isEmpty = b := by
    rw [Lib.toList_data, hTd, ← hb, Bool.eq_iff_iff, List.isEmpty_iff]
    exact trim_nil l
  have HF : Hid (fingB l = (decide (n = 64) && b)) := Lib.hid (by unfold fingB; rw [hn, hb])
  rw [hn] at hz
  have hnz : (n : Int) ≤ 9223372036854775807 := by unfold maxLen at hm; omega
  clear hT hTd hc hcl hb hn hm hS
  by_cases h64 : n = 64
  · have hzb : ((s.size : Int) == 64) = true := by simp; omega
    have HF2 : Hid (fingB l = b) := Lib.hid (by rw [HF.out, decide_eq_true h64]; rfl)
    go_enter Tryz.func64, Tryz.ntmps64
    repeat (first | (go_at_call 95; refine CT.out.mono ?_; rintro r w1 ⟨rfl, hb1⟩; simp only []; have B1 := Lib.hid hb1; clear hb1) | go_skip | go_guarded | go_step | go_upon)
    go_ret
    exact ⟨by rw [HF2.out]; first | rw [hTi] | rfl, B1.out⟩
  · have hzb : ((s.size : Int) == 64) = false := by simp; omega
    have HF2 : Hid (fingB l = false) := Lib.hid (by rw [HF.out, decide_eq_false h64]; rfl)
    go_enter Tryz.func64, Tryz.ntmps64
    repeat (first | go_skip | go_guarded | go_step | go_upon)
    go_ret
    exact ⟨by rw [HF2.out]; rfl, Below.refl _ _⟩
set_option maxRecDepth 100000 in
set_option maxHeartbeats 1600000 in
theorem has_any (n : Nd) (w : World) (hd : n.data.length ≤ maxLen) :
    Calls Tryz.prog 32 #[ndVal n] w fun r w' => r = .returned (.bool (!bareN n)) ∧ Below w.heap.size w w' := by
  obtain ⟨q, k, d, m⟩ := n
  obtain ⟨Q, hQ, hQd⟩ := txt_of q
  obtain ⟨D, hD, hDd⟩ := txt_of d
  unfold ndVal
  simp only at hd ⊢
  rw [hQ, hD]
  obtain ⟨b, hb⟩ : ∃ b, fingB d = b := ⟨_, rfl⟩
  have CO : Hid (∀ W, Calls Tryz.prog 64 #[.string D] W fun e w' => e = .returned (.bool b) ∧ Below W.heap.size W w') := Lib.hid (fun W => by
    rw [← hb]
    exact finger_any D d W hDd hd)
  have B0 : Hid (Below w.heap.size w (w.alloc (.cells #[.string Q, .int .i64 k, .string D, .int .i64 m] 25))) := Lib.hid ((Below.refl _ _).alloc (Nat.le_refl _) _)
  have HV : Hid (bareN ⟨q, k, d, m⟩ = (decide (k = 2) || b)) := Lib.hid (by unfold bareN; rw [hb])
  clear hQ hQd hD hDd hb hd
  by_cases hk : k = 2
  · subst hk
    have HV2 : Hid (bareN ⟨q, 2, d, m⟩ = true) := Lib.hid (by rw [HV.out]; rfl)
    go_enter Tryz.func32, Tryz.ntmps32
    repeat (first | go_skip | go_guarded | go_step | go_upon)
    go_ret
    exact ⟨by rw [HV2.out]; rfl, B0.out⟩
  · have hkb : (k != 2) = true := by simp [hk]
    have HV2 : Hid (bareN ⟨q, k, d, m⟩ = b) := Lib.hid (by rw [HV.out, decide_eq_false hk]; rfl)
    go_enter Tryz.func32, Tryz.ntmps32
    repeat (first | (go_at_call 64; refine (CO.out _).mono ?_; rintro r w1 ⟨rfl, hb⟩; simp only []; have B1 := Lib.hid (Below.trans B0.out (hb.mono B0.out.size)); clear hb) | go_skip | go_guarded | go_step | go_upon)
    go_ret
    exact ⟨by rw [HV2.out]; first | done | rfl | simp [hkb], B1.out⟩
/-- Whether one of them has data. -/
def anyD (v : List Nd) : Bool := v.any fun n => !bareN n
def LongD (ts : List Nd) : Prop := ∀ n ∈ ts, n.data.length ≤ maxLen
set_option maxRecDepth 100000 in
set_option maxHeartbeats 1600000 in
theorem index_any (bo : Option Addr) (cb : Nat) (v : List Nd) (w : World) (h : LayN w bo v) (hs : LongD v) (hl : v.length ≤ 1000) :
    Calls Tryz.prog 63 #[.slice bo v.length cb, .func (.func 32) #[] #[]] w fun r w' => ∃ z : Int, r = .returned (.int .i64 z) ∧ decide (0 ≤ z) = anyD v ∧ Below w.heap.size w w' := by
  have eg : ∀ args w, (callFunc 32 args).run Tryz.prog w = .ok (.enter 32 args) w := enters_of Tryz.func32 (by kernel_rfl) rfl
  obtain ⟨m, hm⟩ : ∃ m, v.length = m := ⟨_, rfl⟩
  have HM := Lib.hid hm
  have HL := Lib.hid h
  have HS := Lib.hid hs
  rw [hm] at hl ⊢
  have hmz : (m : Int) ≤ 1000 := by omega
  clear h hs hm
  go_enter Tryz.func63, Tryz.ntmps63
  repeat (first | go_skip | go_guarded | go_step | go_upon)
  go_loopw [8] (fun s8 wr => ∃ k : Nat, s8 = .int .i64 k ∧ k ≤ m ∧ anyD (v.take k) = false ∧ Below w.heap.size w wr) (fun s8 _ => m - (Go.RowKit.intOf s8).toNat)
  case atStart => exact ⟨0, rfl, Nat.zero_le _, rfl, Below.refl _ _⟩
  case round =>
    obtain ⟨k, rfl, hk, hbad, hb⟩ := hrel
    have HB := Lib.hid hb
    have HBd := Lib.hid hbad
    have hbs := hb.size
    have hLr := HL.out.below hb
    clear hbad
    by_cases hlt : k < m
    · have hkz : (k : Int) < m := by omega
      obtain ⟨g, o, rfl, hg, hcell⟩ := hLr (by rw [HM.out]; omega)
      obtain ⟨x, hx⟩ : ∃ x, v[k]? = some x := ⟨v[k]'(by rw [HM.out]; exact hlt), List.getElem?_eq_getElem _⟩
      obtain ⟨c0, c1, c2, c3⟩ := hcell k x hx
      obtain ⟨X, hX, _⟩ := txt_of x.path
      obtain ⟨D, hD, _⟩ := txt_of x.data
      rw [hX] at c0
      rw [hD] at c2
      have cx := has_any x wr (HS.out x (List.mem_of_getElem? hx))
      unfold ndVal at cx
      rw [hX, hD] at cx
      obtain ⟨b, hbb⟩ : ∃ b, bareN x = b := ⟨_, rfl⟩
      have HBb := Lib.hid hbb
      rw [hbb] at cx
      have HX := Lib.hid hx
      have CX := Lib.hid cx
      clear hb hcell hx hX hD cx hbb hLr hlt
      cases b with
      | true =>
        have HB2 : Hid (anyD (v.take (k + 1)) = false) := Lib.hid (by
          unfold anyD
          rw [List.take_add_one, HX.out, Option.toList_some, List.any_append]
          have := HBd.out
          unfold anyD at this
          rw [this]
          simp [HBb.out])
        repeat (first | (go_at_fn 32; refine CX.out.mono ?_; rintro r w1 ⟨rfl, hb⟩; simp only []; have B1 := Lib.hid (Below.trans HB.out (hb.mono hbs)); clear hb) | go_skip | go_guarded | go_step | go_upon)
        exact ⟨⟨k + 1, by go_num, by omega, HB2.out, B1.out⟩, by simp [Go.RowKit.intOf]; omega⟩
      | false =>
        have HF : Hid (anyD v = true) := Lib.hid (by
          unfold anyD
          rw [List.any_eq_true]
          exact ⟨x, List.mem_of_getElem? HX.out, by rw [HBb.out]; rfl⟩)
        repeat (first | (go_at_fn 32; refine CX.out.mono ?_; rintro r w1 ⟨rfl, hb⟩; simp only []; have B1 := Lib.hid (Below.trans HB.out (hb.mono hbs)); clear hb) | go_skip | go_guarded | go_step | go_upon)
        go_ret
        exact ⟨_, rfl, by rw [HF.out]; simp, B1.out⟩
    · have hkz : ¬ (k : Int) < m := by omega
      have HF : Hid (anyD v = false) := Lib.hid (by
        have := HBd.out
        rw [List.take_of_length_le (by rw [HM.out]; omega)] at this
        exact this)
      clear hlt hb hLr
      repeat (first | go_skip | go_guarded | go_step | go_upon)
      go_ret
      exact ⟨_, rfl, by rw [HF.out]; simp, HB.out⟩
set_option maxRecDepth 100000 in
theorem contains_any (bo : Option Addr) (cb : Nat) (v : List Nd) (w : World) (h : LayN w bo v) (hs : LongD v) (hl : v.length ≤ 1000) :
    Calls Tryz.prog 31 #[.slice bo v.length cb, .func (.func 32) #[] #[]] w fun r w' => r = .returned (.bool (anyD v)) ∧ Below w.heap.size w w' := by
  have CI := Lib.hid (index_any bo cb v w h hs hl)
  obtain ⟨m, hm⟩ : ∃ m, v.length = m := ⟨_, rfl⟩
  rw [hm] at CI ⊢
  clear h hs hl hm
  go_enter Tryz.func31, Tryz.ntmps31
  repeat (first | (go_at_call 63; refine CI.out.mono ?_; rintro r w1 ⟨z, rfl, hz, hb⟩; simp only []; have HZ := Lib.hid hz; have B1 := Lib.hid hb; clear hb hz) | go_skip | go_guarded | go_step | go_upon)
  go_ret
  exact ⟨by rw [← HZ.out]; rfl, B1.out⟩
theorem bare_eq (t : List Nd) : bareB t = (treeB t && !anyD t) := by
  unfold bareB anyD
  congr 1
  rw [List.not_any_eq_all_not]
  congr 1
  funext n
  simp
set_option maxRecDepth 100000 in
set_option maxHeartbeats 1600000 in
theorem isBare_any (ao : Option Addr) (ca : Nat) (ts : List Nd) (w : World) (he : NF.Env w) (h : Wide w ao ca ts) :
    Calls Tryz.prog 13 #[.slice ao ts.length ca] w fun r w' => r = .returned (.bool (bareB ts)) ∧ Below w.heap.size w w' := by
  have CC := Lib.hid (h.check he)
  have HE := Lib.hid (bare_eq ts)
  obtain ⟨n, hn⟩ : ∃ n, ts.length = n := ⟨_, rfl⟩
  cases ht : treeB ts with
  | true =>
    have t := (tree_iff ts).1 ht
    have hl := t.len
    have hd : LongD ts := fun x hx => by
      have := small_right (t.right x hx)
      unfold maxLen
      omega
    obtain ⟨b, hb⟩ : ∃ b, anyD ts = b := ⟨_, rfl⟩
    have CF : Hid (∀ W, Below w.heap.size w W → Calls Tryz.prog 31 #[.slice ao ts.length ca, .func (.func 32) #[] #[]] W fun r w' => r = .returned (.bool b) ∧ Below W.heap.size W w') := Lib.hid (fun W hW => by
      have := contains_any ao ca ts W (h.lay.below hW) hd hl
      rw [hb] at this
      exact this)
    have HV : Hid (bareB ts = !b) := Lib.hid (by rw [HE.out, ht, hb]; rfl)
    have e0 : checkG ts = 0 := check_yes ht
    rw [e0, hn] at CC
    rw [hn] at CF ⊢
    clear h he hn ht t hl hd hb e0 HE
    go_enter Tryz.func13, Tryz.ntmps13
    repeat (first | (go_at_call 25; refine CC.out.mono ?_; rintro r w1 ⟨rfl, hb⟩; simp only []; have B1 := Lib.hid hb; clear hb) | (go_at_call 31; refine (CF.out _ B1.out).mono ?_; rintro r w2 ⟨rfl, hb⟩; simp only []; have B2 := Lib.hid (Below.trans B1.out (hb.mono B1.out.size)); clear hb) | go_skip | go_guarded | go_step | go_upon)
    go_ret
    exact ⟨by rw [HV.out]; first | done | rfl | simp, B2.out⟩
  | false =>
    have e0 : checkG ts = 60 := check_no ht
    have HV : Hid (bareB ts = false) := Lib.hid (by rw [HE.out, ht]; rfl)
    rw [e0, hn] at CC
    rw [hn]
    clear h he hn ht e0 HE
    go_enter Tryz.func13, Tryz.ntmps13
    repeat (first | (go_at_call 25; refine CC.out.mono ?_; rintro r w1 ⟨rfl, hb⟩; simp only []; have B1 := Lib.hid hb; clear hb) | go_skip | go_guarded | go_step | go_upon)
    go_ret
    exact ⟨by rw [HV.out]; rfl, B1.out⟩
end AR
end Go.Proofs.YtiggdojppfblkaaGreatDoor
end

section
/- Layer 9: the contracts of the program's belowZero, and of ContainsFunc over it. -/
namespace Go.Proofs.YtiggdojppfblkaaGreatDoor
open Go.RowKit Go.Lib Go.BigFrame
namespace AR
open OM TP TM TG TW AP

theorem run_min3 {P : Program} (w : World) (ts : Array TypeId) (t : TypeId) (x y z : Int) :
    (Builtin.min_ ts t #[.int .i64 x, .int .i64 y, .int .i64 z]).run P w = .ok (.int .i64 (min (min x y) z)) w := by
  have e : ∀ x y : Int, (if y < x then y else x) = min x y := fun x y => by
    rw [Int.min_def]
    split <;> split <;> omega
  simp [Builtin.min_, Builtin.min2, e]
/-- Whether one of them has a number below 0. -/
def anyZ (l : List Sm) : Bool := l.any fun s => !okS s
set_option maxRecDepth 100000 in
set_option maxHeartbeats 1600000 in
theorem zero_any (s : Sm) (w : World) :
    Calls Tryz.prog 66 #[smVal s] w fun r w' => r = .returned (.bool (!okS s)) ∧ Below w.heap.size w w' := by
  obtain ⟨a, b, c⟩ := s
  unfold smVal
  simp only
  have B0 : Hid (Below w.heap.size w (w.alloc (.cells #[.int .i64 a, .int .i64 b, .int .i64 c] 67))) := Lib.hid ((Below.refl _ _).alloc (Nat.le_refl _) _)
  have HV : Hid (∀ m : Int, m ≤ a → m ≤ b → m ≤ c → (m = a ∨ m = b ∨ m = c) → decide (m < 0) = !okS ⟨a, b, c⟩) := Lib.hid (fun m h1 h2 h3 h4 => by
    unfold okS
    rw [Bool.eq_iff_iff]
    simp
    omega)
  have q3 := fun W => run_min3 (P := Tryz.prog) W #[3, 3, 3] 3 a b c
  obtain ⟨m, hm⟩ : ∃ m, min (min a b) c = m := ⟨_, rfl⟩
  have HM : Hid (decide (m < 0) = !okS ⟨a, b, c⟩) := Lib.hid (HV.out m (by omega) (by omega) (by omega) (by omega))
  rw [hm] at q3
  clear hm
  go_enter Tryz.func66, Tryz.ntmps66
  repeat (first | go_skip | go_guarded | go_step | go_upon)
  go_ret
  exact ⟨by rw [← HM.out]; rfl, B0.out⟩
set_option maxRecDepth 100000 in
set_option maxHeartbeats 1600000 in
theorem sindex_any (bo : Option Addr) (cb : Nat) (v : List Sm) (w : World) (h : LayM w bo v) (hl : v.length ≤ 1000) :
    Calls Tryz.prog 96 #[.slice bo v.length cb, .func (.func 66) #[] #[]] w fun r w' => ∃ z : Int, r = .returned (.int .i64 z) ∧ decide (0 ≤ z) = anyZ v ∧ Below w.heap.size w w' := by
  have eg : ∀ args w, (callFunc 66 args).run Tryz.prog w = .ok (.enter 66 args) w := enters_of Tryz.func66 (by kernel_rfl) rfl
  obtain ⟨m, hm⟩ : ∃ m, v.length = m := ⟨_, rfl⟩
  have HM := Lib.hid hm
  have HL := Lib.hid h
  rw [hm] at hl ⊢
  have hmz : (m : Int) ≤ 1000 := by omega
  clear h hm
  go_enter Tryz.func96, Tryz.ntmps96
  repeat (first | go_skip | go_guarded | go_step | go_upon)
  go_loopw [8] (fun s8 wr => ∃ k : Nat, s8 = .int .i64 k ∧ k ≤ m ∧ anyZ (v.take k) = false ∧ Below w.heap.size w wr) (fun s8 _ => m - (Go.RowKit.intOf s8).toNat)
  case atStart => exact ⟨0, rfl, Nat.zero_le _, rfl, Below.refl _ _⟩
  case round =>
    obtain ⟨k, rfl, hk, hbad, hb⟩ := hrel
    have HB := Lib.hid hb
    have HBd := Lib.hid hbad
    have hbs := hb.size
    have hLr := HL.out.below hb
    clear hbad
    by_cases hlt : k < m
    · have hkz : (k : Int) < m := by omega
      obtain ⟨g, o, rfl, hg, hcell⟩ := hLr (by rw [HM.out]; omega)
      obtain ⟨x, hx⟩ : ∃ x, v[k]? = some x := ⟨v[k]'(by rw [HM.out]; exact hlt), List.getElem?_eq_getElem _⟩
      obtain ⟨c0, c1, c2⟩ := hcell k x hx
      have cx := zero_any x wr
      unfold smVal at cx
      obtain ⟨b, hbb⟩ : ∃ b, okS x = b := ⟨_, rfl⟩
      have HBb := Lib.hid hbb
      rw [hbb] at cx
      have HX := Lib.hid hx
      have CX := Lib.hid cx
      clear hb hcell hx cx hbb hLr hlt
      cases b with
      | true =>
        have HB2 : Hid (anyZ (v.take (k + 1)) = false) := Lib.hid (by
          unfold anyZ
          rw [List.take_add_one, HX.out, Option.toList_some, List.any_append]
          have := HBd.out
          unfold anyZ at this
          rw [this]
          simp [HBb.out])
        repeat (first | (go_at_fn 66; refine CX.out.mono ?_; rintro r w1 ⟨rfl, hb⟩; simp only []; have B1 := Lib.hid (Below.trans HB.out (hb.mono hbs)); clear hb) | go_skip | go_guarded | go_step | go_upon)
        exact ⟨⟨k + 1, by go_num, by omega, HB2.out, B1.out⟩, by simp [Go.RowKit.intOf]; omega⟩
      | false =>
        have HF : Hid (anyZ v = true) := Lib.hid (by
          unfold anyZ
          rw [List.any_eq_true]
          exact ⟨x, List.mem_of_getElem? HX.out, by rw [HBb.out]; rfl⟩)
        repeat (first | (go_at_fn 66; refine CX.out.mono ?_; rintro r w1 ⟨rfl, hb⟩; simp only []; have B1 := Lib.hid (Below.trans HB.out (hb.mono hbs)); clear hb) | go_skip | go_guarded | go_step | go_upon)
        go_ret
        exact ⟨_, rfl, by rw [HF.out]; simp, B1.out⟩
    · have hkz : ¬ (k : Int) < m := by omega
      have HF : Hid (anyZ v = false) := Lib.hid (by
        have := HBd.out
        rw [List.take_of_length_le (by rw [HM.out]; omega)] at this
        exact this)
      clear hlt hb hLr
      repeat (first | go_skip | go_guarded | go_step | go_upon)
      go_ret
      exact ⟨_, rfl, by rw [HF.out]; simp, HB.out⟩
set_option maxRecDepth 100000 in
theorem scontains_any (bo : Option Addr) (cb : Nat) (v : List Sm) (w : World) (h : LayM w bo v) (hl : v.length ≤ 1000) :
    Calls Tryz.prog 65 #[.slice bo v.length cb, .func (.func 66) #[] #[]] w fun r w' => r = .returned (.bool (anyZ v)) ∧ Below w.heap.size w w' := by
  have CI := Lib.hid (sindex_any bo cb v w h hl)
  obtain ⟨m, hm⟩ : ∃ m, v.length = m := ⟨_, rfl⟩
  rw [hm] at CI ⊢
  clear h hl hm
  go_enter Tryz.func65, Tryz.ntmps65
  repeat (first | (go_at_call 96; refine CI.out.mono ?_; rintro r w1 ⟨z, rfl, hz, hb⟩; simp only []; have HZ := Lib.hid hz; have B1 := Lib.hid hb; clear hb hz) | go_skip | go_guarded | go_step | go_upon)
  go_ret
  exact ⟨by rw [← HZ.out]; rfl, B1.out⟩
end AR
end Go.Proofs.YtiggdojppfblkaaGreatDoor
end

section
/- Layer 6: the contracts of slices.Clone, slices.Grow, slices.Concat at lists of nodes. -/
namespace Go.Proofs.YtiggdojppfblkaaGreatDoor
open Go.RowKit Go.Lib Go.BigFrame
namespace TG
open OM TP TM TR

theorem nodes_app (a b : List Nd) : nodesC (a ++ b) = nodesC a ++ nodesC b := by
  unfold nodesC
  rw [List.flatMap_append]
/-- A list of nodes somewhere in memory. -/
structure Pc where
  a : Option Addr
  c : Nat
  l : List Nd
/-- It lies there, and nil has no room. -/
structure PcOk (w : World) (e : Pc) : Prop where
  lay : LayN w e.a e.l
  nil : e.a = none → e.c = 0
theorem PcOk.below {w w' : World} {e : Pc} (h : PcOk w e) (hb : Below w.heap.size w w') : PcOk w' e := ⟨h.lay.below hb, h.nil⟩
theorem PcOk.none {w : World} {e : Pc} (h : PcOk w e) (ha : e.a = none) : e.l = [] := by
  rcases Nat.eq_zero_or_pos e.l.length with h0 | h0
  · exact List.length_eq_zero_iff.1 h0
  · obtain ⟨g, o, h', _⟩ := h.lay h0
    rw [ha] at h'
    cases h'
set_option maxRecDepth 100000 in
set_option maxHeartbeats 1600000 in
theorem clone_any (ao : Option Addr) (cap : Nat) (v : List Nd) (w : World) (h : LayN w ao v) (hno : ao = none → cap = 0) (hl : v.length ≤ 1000) :
    Calls Tryz.prog 26 #[.slice ao v.length cap] w (AtPost v w) := by
  obtain ⟨i0, hi, hz0, hz1, hz2⟩ := info_parts infoN
  cases ao with
  | none =>
    have h0 : v = [] := (PcOk.none (e := ⟨none, cap, v⟩) ⟨h, hno⟩ rfl)
    subst h0
    have hc := hno rfl
    subst hc
    have q0 := fun W => Lib.run_eql_slice_nil (P := Tryz.prog) W 22 _ none 0 0 0 0 Tryz.underlying22
    go_enter Tryz.func26, Tryz.ntmps26
    repeat (first | go_skip | go_guarded | go_step | go_upon)
    go_ret
    exact AtPost.nil rfl (Below.refl _ _)
  | some ad =>
    have HNws : Hid (∀ W, Below w.heap.size w W → ∀ (j : Nat) (u : Value), (nodesC v)[j]? = some u → W.cell? (ad.add j) = some u) := Lib.hid (fun W hW => lay_cells (h.below hW))
    have HNl : Hid ((nodesC v).length = v.length * 4) := Lib.hid (nodes_len v)
    have HNd : Hid (∀ u ∈ nodesC v, u.oneCell' = true) := Lib.hid (nds_one v)
    have HOw : Hid ((w.alloc (.cells #[] 25)).ownsRow w.heap.size 25 4 (.slice (some ⟨w.heap.size, 0, none⟩) 0 0) 0 []) := Lib.hid (World.ownsRow_made w #[] 0 (Nat.le_refl _) (Nat.zero_le _) rfl)
    have B0 : Hid (Below w.heap.size w (w.alloc (.cells #[] 25))) := Lib.hid ((Below.refl _ _).alloc (Nat.le_refl _) _)
    obtain ⟨n, hn⟩ : ∃ n, v.length = n := ⟨_, rfl⟩
    have HN := Lib.hid hn
    rw [hn] at hl HNl ⊢
    have q0 := fun W => Lib.run_eql_slice_nil (P := Tryz.prog) W 22 _ (some ad) n cap 0 0 Tryz.underlying22
    clear h hno hn
    go_enter Tryz.func26, Tryz.ntmps26
    repeat (first
      | (at_builtin; refine wpList_append_own _ rfl _ _ 22 rfl w.heap.size 25 i0 (ndVal zeroN) 4 48 Tryz.underlying22 hi hz0 hz1 hz2 rfl (by decide) _ _ _ rfl HOw.out ad n cap (nodesC v) rfl HNl.out (HNws.out _ B0.out) HNd.out (by unfold maxLen; omega) (by omega) (by simp) ?_; intro v' w5 hown' hgrow5 hnil5; have HO5 := Lib.hid hown'; have HB5 := Lib.hid (B0.out.grown hgrow5 (by simp) (fun j hj => (HOw.out.lt j hj).1)); clear hown' hgrow5 hnil5)
      | go_skip | go_guarded | go_step | go_upon)
    go_ret
    refine ⟨_, rfl, ?_, HB5.out⟩
    have := HO5.out
    rw [Nat.zero_add, List.nil_append] at this
    rw [HN.out]
    exact this
end TG
end Go.Proofs.YtiggdojppfblkaaGreatDoor
end

section
/- Layer 9: the contracts of the program's right, Check, Match. -/
namespace Go.Proofs.YtiggdojppfblkaaGreatDoor
open Go.RowKit Go.Lib Go.BigFrame
namespace AR
open OM TP TM TG TW AP TR

structure WideM (w : World) (so : Option Addr) (us : List Sm) : Prop where
  lay : LayM w so us
  max : us.length ≤ maxLen
theorem WideM.below {w W : World} {so : Option Addr} {us : List Sm} (h : WideM w so us) (hb : Below w.heap.size w W) : WideM W so us := ⟨h.lay.below hb, h.max⟩
/-- An archive, as it lies. -/
structure ArAt (w : World) (a : Ar) (ao : Option Addr) (ca : Nat) (so : Option Addr) : Prop where
  tree : Wide w ao ca a.tree
  stamps : WideM w so a.stamps
  pair : a.pair.length ≤ maxLen
  fit : FitA a
theorem ArAt.below {w W : World} {a : Ar} {ao : Option Addr} {ca : Nat} {so : Option Addr} (h : ArAt w a ao ca so) (hb : Below w.heap.size w W) : ArAt W a ao ca so := ⟨h.tree.below hb, h.stamps.below hb, h.pair, h.fit⟩
def arVal (a : Ar) (ao : Option Addr) (ca : Nat) (so : Option Addr) (sc : Nat) : Value := .agg #[txt a.pair, .int .i64 a.serial, .slice ao a.tree.length ca, .slice so a.stamps.length sc]
theorem okS_any (l : List Sm) : l.all okS = !anyZ l := by
  unfold anyZ
  rw [List.not_any_eq_all_not]
  congr 1
  funext n
  simp
set_option maxRecDepth 100000 in
set_option maxHeartbeats 6400000 in
theorem right_any (a : Ar) (ao : Option Addr) (ca : Nat) (so : Option Addr) (sc : Nat) (w : World) (he : NF.Env w) (h : ArAt w a ao ca so) :
    Calls Tryz.prog 34 #[arVal a ao ca so sc] w fun r w' => r = .returned (.bool (rightA a)) ∧ Below w.heap.size w w' := by
  obtain ⟨p, s, ts, us⟩ := a
  obtain ⟨ht, hs, hp, _⟩ := h
  simp only at ht hs hp
  unfold arVal
  simp only
  obtain ⟨P, hP, hPd⟩ := txt_of p
  rw [hP]
  obtain ⟨w1, hw1e⟩ : ∃ w1, w.alloc (.cells #[.string P, .int .i64 s, .slice ao ts.length ca, .slice so us.length sc] 35) = w1 := ⟨_, rfl⟩
  have b0 : Below w.heap.size w w1 := by rw [← hw1e]; exact (Below.refl _ _).alloc (Nat.le_refl _) _
  obtain ⟨t0, t1, t2, t3⟩ := box4 w (.string P) (.int .i64 s) (.slice ao ts.length ca) (.slice so us.length sc) 35
  rw [hw1e] at t0 t1 t2 t3
  have hw1 : w.heap.size < w1.heap.size := by rw [← hw1e]; simp
  have B0 := Lib.hid b0
  have CB : Hid (∀ W, Below w.heap.size w W → Calls Tryz.prog 13 #[.slice ao ts.length ca] W fun r w' => r = .returned (.bool (bareB ts)) ∧ Below W.heap.size W w') := Lib.hid (fun W hW => isBare_any ao ca ts W (he.below hW) (ht.below hW))
  obtain ⟨bb, hbb⟩ : ∃ b, bareB ts = b := ⟨_, rfl⟩
  obtain ⟨bz, hbz⟩ : ∃ b, anyZ us = b := ⟨_, rfl⟩
  have hlt : bb = true → ts.length ≤ 1000 := fun e => by
    rw [← hbb] at e
    unfold bareB at e
    simp at e
    exact ((tree_iff ts).1 e.1).len
  have CF : Hid (bb = true ∧ us.length = ts.length → ∀ W, Below w.heap.size w W → Calls Tryz.prog 65 #[.slice so us.length sc, .func (.func 66) #[] #[]] W fun r w' => r = .returned (.bool bz) ∧ Below W.heap.size W w') := Lib.hid (fun hl W hW => by
    have := scontains_any so sc us W (hs.lay.below hW) (by have := hlt hl.1; omega)
    rw [hbz] at this
    exact this)
  obtain ⟨pl, hpl⟩ : ∃ n, p.length = n := ⟨_, rfl⟩
  obtain ⟨n, hn⟩ : ∃ n, ts.length = n := ⟨_, rfl⟩
  obtain ⟨m, hm⟩ : ∃ n, us.length = n := ⟨_, rfl⟩
  have hPs : P.size = pl := by rw [Lib.size_eq, hPd]; exact hpl
  have HV0 : Hid (rightA ⟨p, s, ts, us⟩ = (decide (pl ≠ 0) && decide (pl ≤ 64) && decide (0 ≤ s) && bb && decide (m = n) && !bz)) := Lib.hid (by
    unfold rightA
    have e : decide (p ≠ []) = decide (pl ≠ 0) := by rw [← hpl]; simp
    simp only []
    rw [e, hpl, hbb, hm, hn, okS_any, hbz])
  have hPe : (P.toList == ByteArray.toList ⟨#[]⟩) = decide (pl = 0) := by
    rw [Lib.toList_data, Lib.toList_data, hPd, ← hpl]
    cases p <;> simp
  have hPi : P.toList.isEmpty = decide (pl = 0) := by
    rw [Lib.toList_data, hPd, ← hpl]
    cases p <;> simp
  rw [hbb] at CB
  rw [hn] at CB CF t2 hw1e hlt ⊢
  rw [hm] at CF t3 hw1e ⊢
  have hpm : (pl : Int) ≤ 9223372036854775807 := by unfold maxLen at hp; omega
  have hnm : (n : Int) ≤ 9223372036854775807 := by have := ht.max; unfold maxLen at this; omega
  have hmm : (m : Int) ≤ 9223372036854775807 := by have := hs.max; unfold maxLen at this; omega
  have hpz : True := trivial
  clear ht hs hp hP hPd hbb hbz hpl hn hm b0 hlt
  by_cases x1 : pl = 0
  · have HV : Hid (rightA ⟨p, s, ts, us⟩ = false) := Lib.hid (by rw [HV0.out]; simp [x1])
    rw [decide_eq_true x1] at hPe hPi
    clear hpz he
    go_enter Tryz.func34, Tryz.ntmps34
    repeat (first | go_skip | go_guarded | go_step | go_upon)
    go_ret
    exact ⟨by rw [HV.out]; first | rfl | simp [hPe, hPi], B0.out⟩
  · rw [decide_eq_false x1] at hPe hPi
    by_cases x2 : pl ≤ 64
    · have x2z : (P.size : Int) ≤ 64 := by omega
      by_cases x3 : 0 ≤ s
      · cases bb with
        | false =>
          have HV : Hid (rightA ⟨p, s, ts, us⟩ = false) := Lib.hid (by rw [HV0.out]; simp)
          clear hpz he
          go_enter Tryz.func34, Tryz.ntmps34
          repeat (first | (go_at_call 13; refine (CB.out _ B0.out).mono ?_; rintro r w2 ⟨rfl, hb⟩; simp only []; have B2 := Lib.hid (Below.trans B0.out (hb.mono B0.out.size)); have u2 := (hb.cell (p := ⟨w.heap.size, 2, none⟩) hw1).trans t2; have u3 := (hb.cell (p := ⟨w.heap.size, 3, none⟩) hw1).trans t3; clear hb) | go_skip | go_guarded | go_step | go_upon)
          go_ret
          exact ⟨by rw [HV.out]; first | rfl | simp [hPe, hPi], B2.out⟩
        | true =>
          by_cases x4 : m = n
          · have HV : Hid (rightA ⟨p, s, ts, us⟩ = !bz) := Lib.hid (by rw [HV0.out]; simp [x1, x2, x3, x4])
            subst x4
            have HLen := Lib.hid (And.intro (rfl : true = true) (rfl : m = m))
            clear hpz he
            go_enter Tryz.func34, Tryz.ntmps34
            repeat (first | (go_at_call 13; refine (CB.out _ B0.out).mono ?_; rintro r w2 ⟨rfl, hb⟩; simp only []; have B2 := Lib.hid (Below.trans B0.out (hb.mono B0.out.size)); have u2 := (hb.cell (p := ⟨w.heap.size, 2, none⟩) hw1).trans t2; have u3 := (hb.cell (p := ⟨w.heap.size, 3, none⟩) hw1).trans t3; clear hb) | (go_at_call 65; refine (CF.out HLen.out _ B2.out).mono ?_; rintro r w3 ⟨rfl, hb⟩; simp only []; have B3 := Lib.hid (Below.trans B2.out (hb.mono B2.out.size)); clear hb) | go_skip | go_guarded | go_step | go_upon)
            go_ret
            exact ⟨by rw [HV.out]; first | rfl | simp [hPe, hPi], B3.out⟩
          · have x4z : ((m : Int) == (n : Int)) = false := by simp; omega
            have HV : Hid (rightA ⟨p, s, ts, us⟩ = false) := Lib.hid (by rw [HV0.out]; simp [x4])
            clear hpz he
            go_enter Tryz.func34, Tryz.ntmps34
            repeat (first | (go_at_call 13; refine (CB.out _ B0.out).mono ?_; rintro r w2 ⟨rfl, hb⟩; simp only []; have B2 := Lib.hid (Below.trans B0.out (hb.mono B0.out.size)); have u2 := (hb.cell (p := ⟨w.heap.size, 2, none⟩) hw1).trans t2; have u3 := (hb.cell (p := ⟨w.heap.size, 3, none⟩) hw1).trans t3; clear hb) | go_skip | go_guarded | go_step | go_upon)
            go_ret
            exact ⟨by rw [HV.out]; first | rfl | simp [hPe, hPi], B2.out⟩
      · have HV : Hid (rightA ⟨p, s, ts, us⟩ = false) := Lib.hid (by rw [HV0.out]; simp [x3])
        have x3z : decide (0 ≤ s) = false := decide_eq_false x3
        clear hpz he
        go_enter Tryz.func34, Tryz.ntmps34
        repeat (first | go_skip | go_guarded | go_step | go_upon)
        go_ret
        exact ⟨by rw [HV.out]; first | rfl | simp [hPe, hPi], B0.out⟩
    · have x2z : ¬ (P.size : Int) ≤ 64 := by omega
      have HV : Hid (rightA ⟨p, s, ts, us⟩ = false) := Lib.hid (by rw [HV0.out]; simp [x2])
      clear hpz he
      go_enter Tryz.func34, Tryz.ntmps34
      repeat (first | go_skip | go_guarded | go_step | go_upon)
      go_ret
      exact ⟨by rw [HV.out]; first | rfl | simp [hPe, hPi], B0.out⟩
def checkA (a : Ar) : Nat := if rightA a = true then 0 else 90
set_option maxRecDepth 100000 in
set_option maxHeartbeats 1600000 in
theorem acheck_any (a : Ar) (ao : Option Addr) (ca : Nat) (so : Option Addr) (sc : Nat) (w : World) (he : NF.Env w) (h : ArAt w a ao ca so) :
    Calls Tryz.prog 17 #[arVal a ao ca so sc] w fun r w' => r = .returned (.int .i64 (checkA a : Nat)) ∧ Below w.heap.size w w' := by
  have CR : Hid (∀ W, Below w.heap.size w W → Calls Tryz.prog 34 #[arVal a ao ca so sc] W fun r w' => r = .returned (.bool (rightA a)) ∧ Below W.heap.size W w') := Lib.hid (fun W hW => right_any a ao ca so sc W (he.below hW) (h.below hW))
  unfold arVal txt at CR ⊢
  obtain ⟨P, hP⟩ : ∃ P : ByteArray, ⟨a.pair.toArray⟩ = P := ⟨_, rfl⟩
  obtain ⟨n, hn⟩ : ∃ n, a.tree.length = n := ⟨_, rfl⟩
  obtain ⟨m, hm⟩ : ∃ n, a.stamps.length = n := ⟨_, rfl⟩
  obtain ⟨s, hs⟩ : ∃ n, a.serial = n := ⟨_, rfl⟩
  obtain ⟨b, hb⟩ : ∃ b, rightA a = b := ⟨_, rfl⟩
  have HV : Hid (checkA a = if b = true then 0 else 90) := Lib.hid (by unfold checkA; rw [hb])
  rw [hP, hn, hm, hs, hb] at CR
  rw [hP, hn, hm, hs]
  have B0 : Hid (Below w.heap.size w (w.alloc (.cells #[.string P, .int .i64 s, .slice ao n ca, .slice so m sc] 35))) := Lib.hid ((Below.refl _ _).alloc (Nat.le_refl _) _)
  clear hP hn hm hs hb h he
  cases b
  all_goals
    go_enter Tryz.func17, Tryz.ntmps17
    repeat (first | (go_at_call 34; refine (CR.out _ B0.out).mono ?_; rintro r w2 ⟨rfl, hb⟩; simp only []; have B2 := Lib.hid (Below.trans B0.out (hb.mono B0.out.size)); clear hb) | go_skip | go_guarded | go_step | go_upon)
    go_ret
    exact ⟨by rw [HV.out]; rfl, B2.out⟩
def matchA (a b : Ar) : Bool := rightA a && rightA b && decide (a.pair = b.pair) && decide (a.serial = b.serial) && decide (a.tree = b.tree)
end AR
end Go.Proofs.YtiggdojppfblkaaGreatDoor
end

section
/- The writers of strings.Builder at this translation: copyCheck, WriteString. -/
namespace Go.Proofs.YtiggdojppfblkaaGreatDoor
open Go.RowKit Go.Lib
namespace GB

theorem sizeB : (Tryz.prog.info? 59).map (·.size) = some 2 := by kernel_rfl
theorem liesB : liesAt Tryz.prog Tryz.prog.depth 61 (2 / Tryz.prog.cellsOf 61) 0 59 1 = true := by kernel_rfl
abbrev At (B b : Nat) (p : Value) (bs : List Value) (w : World) : Prop := Lib.BuilderAtF 61 5 B b p bs w
abbrev Is (B b : Nat) (bs : List Value) (w : World) : Prop := Lib.IsBuilderF 61 5 B b bs w
def CkPost (B b : Nat) (bs : List Value) (w : World) (e : Ending) (w' : World) : Prop := e = .returned (.tuple #[]) ∧ At B b (.pointer (some ⟨b, 0, none⟩)) bs w' ∧ Below B w w' ∧ OthersKept 5 (some b) w w'
set_option maxRecDepth 100000 in
set_option maxHeartbeats 1600000 in
theorem check_fresh (b : Nat) (w : World) (h0 : w.cell? ⟨b, 0, none⟩ = some (.pointer none)) (hsh : w.shape? b = some (61, 2)) (hfz : w.frozen? ⟨b, 0, none⟩ = false) :
    Calls Tryz.prog 134 #[.pointer (some ⟨b, 0, none⟩)] w fun e w' => e = .returned (.tuple #[]) ∧ w' = w.setCell ⟨b, 0, none⟩ (.pointer (some ⟨b, 0, none⟩)) := by
  obtain ⟨j, hj, hjs⟩ := Option.map_eq_some_iff.1 sizeB
  go_enter Tryz.func134, Tryz.ntmps134
  go_wp2
  rw [Lib.run_to_unsafe w ⟨b, 0, none⟩ Tryz.underlying57 Tryz.underlying172 hj (by rw [hjs]; decide) hsh (Nat.zero_lt_succ 1)]
  simp only [Result.andThen]
  rw [Oper.upon_value]
  go_wp2
  rw [run_callFunc_extern Tryz.func151 (by kernel_rfl) (by kernel_rfl) (by kernel_rfl) (e := Extern.AbiNoEscape.same) (by kernel_rfl)]
  rw [Lib.run_noEscape]
  simp only [Result.andThen]
  rw [Oper.upon_value]
  go_wp2
  rw [Lib.run_from_unsafe w ⟨b, 0, none⟩ Tryz.underlying172 Tryz.underlying57 hj hsh liesB]
  simp only [Result.andThen]
  rw [Oper.upon_value]
  go_wp2
  go_end0
  exact ⟨rfl, rfl⟩
set_option maxRecDepth 100000 in
set_option maxHeartbeats 1600000 in
theorem check_used (b : Nat) (w : World) (h0 : w.cell? ⟨b, 0, none⟩ = some (.pointer (some ⟨b, 0, none⟩))) :
    Calls Tryz.prog 134 #[.pointer (some ⟨b, 0, none⟩)] w fun e w' => e = .returned (.tuple #[]) ∧ w' = w := by
  obtain ⟨j, hj, _⟩ := Option.map_eq_some_iff.1 sizeB
  go_enter Tryz.func134, Tryz.ntmps134
  go_wp2
  rw [Lib.run_neq_ptr_same w _ Tryz.underlying57 hj]
  go_wp2
  go_end0
  exact ⟨rfl, rfl⟩
theorem check_any (B b : Nat) (bs : List Value) (w : World) (h : Is B b bs w) : Calls Tryz.prog 134 #[.pointer (some ⟨b, 0, none⟩)] w (CkPost B b bs w) := by
  rcases h with h | h
  · refine (check_fresh b w h.cell0 h.shape h.frozen0).mono ?_
    rintro e w' ⟨rfl, rfl⟩
    exact ⟨rfl, h.used _, (Below.refl B w).setCell (p := ⟨b, 0, none⟩) h.1 _, (OthersKept.refl _ _ w).setCell ⟨b, 0, none⟩ rfl _⟩
  · refine (check_used b w h.cell0).mono ?_
    rintro e w' ⟨rfl, rfl⟩
    exact ⟨rfl, h, Below.refl B _, OthersKept.refl _ _ _⟩
def WsPost (s : ByteArray) (B b : Nat) (bs : List Value) (w : World) (e : Ending) (w' : World) : Prop := e = .returned (.tuple #[.int .i64 s.size, .nilIface]) ∧ Is B b (bs ++ Lib.strCells s) w' ∧ Below B w w' ∧ OthersKept 5 (some b) w w'
set_option maxRecDepth 100000 in
set_option maxHeartbeats 1600000 in
theorem str_any (B b : Nat) (bs : List Value) (s : ByteArray) (w : World) (h : Is B b bs w) (hlen : bs.length + s.size ≤ 140737488355328) (hBw : B ≤ w.heap.size) :
    Calls Tryz.prog 97 #[.pointer (some ⟨b, 0, none⟩), .string s] w (WsPost s B b bs w) := by
  have infoU : (Tryz.prog.info? 5).map (fun i => (i.zero, i.size, i.bytes)) = some (some (.int .u8 0), 1, 1) := by kernel_rfl
  obtain ⟨i0, hi, hz0, hz1, hz2⟩ := info_parts infoU
  clear infoU
  have cC := check_any B b bs w h
  clear h
  go_enter Tryz.func97, Tryz.ntmps97
  go_wp2_with fail
  refine cC.mono ?_
  rintro e w1 ⟨rfl, ⟨hB, v, hbk, hown, hne⟩, hb1, hk1⟩
  have hlt : b < w1.heap.size := (Array.getElem?_eq_some_iff.1 hbk).1
  have c0 : w1.cell? ⟨b, 0, none⟩ = some (.pointer (some ⟨b, 0, none⟩)) := by rw [Lib.cell_of_heap hbk]; rfl
  have c1 : w1.cell? ⟨b, 1, none⟩ = some v := by rw [Lib.cell_of_heap hbk]; rfl
  have hsz := hb1.size
  go_wp2_with (first | (at_builtin; refine Lib.wpList_append_own_stringF _ rfl _ _ 48 9 rfl B 5 i0 Tryz.underlying48 Tryz.underlying9 hi hz0 hz1 hz2 _ _ _ rfl hown s rfl (by unfold maxLen; omega) (by omega) (by omega) ?_; intro v' w2 hown' hgrow hnil; have hb2 : w2.heap[b]? = some (.cells #[.pointer (some ⟨b, 0, none⟩), v] 61 (0, 0)) := (by rw [hgrow.block b hlt (fun e => hne e.symm)]; exact hbk); have d0 : w2.cell? ⟨b, 0, none⟩ = some (.pointer (some ⟨b, 0, none⟩)) := (by rw [Lib.cell_of_heap hb2]; rfl); have d1 : w2.cell? ⟨b, 1, none⟩ = some v := (by rw [Lib.cell_of_heap hb2]; rfl); have f1 : w2.frozen? ⟨b, 1, none⟩ = false := Lib.frozen_of_heap hb2 1; obtain ⟨ao, n', cap, hv'⟩ : ∃ ao n' cap, v' = .slice ao n' cap := (by rcases hown'.2 with ⟨hv, _⟩ | ⟨g, cap, cur, fz, hv, _⟩; exact ⟨_, _, _, hv⟩; exact ⟨_, _, _, hv⟩); subst hv'; have HB2 := Lib.hid hb2; have Hown' := Lib.hid hown'; have Hgrow := Lib.hid hgrow; clear hb2 hown' hgrow hnil))
  go_ret2
  refine ⟨rfl, .inr (Lib.BuilderAtF.put (bs' := bs ++ Lib.strCells s) hB HB2.out (by simpa [Lib.strCells_length] using Hown'.out) (by decide)), ?_, (hk1.grown Hgrow.out (Lib.ownsRowF_kind hown)).setCell ⟨b, 1, none⟩ rfl _⟩
  exact (hb1.grown Hgrow.out (by omega) (fun k hk => (hown.lt k hk).1)).setCell (p := ⟨b, 1, none⟩) hB _
end GB
end Go.Proofs.YtiggdojppfblkaaGreatDoor
end

section
/- Layer 3: the contracts of the writers Num and Text, and of the statements' own guard 'awake'. -/
namespace Go.Proofs.YtiggdojppfblkaaGreatDoor
open Go.RowKit Go.Lib
namespace CR
open CP

theorem nat_i64 {n : Int} (h0 : 0 ≤ n) : ∃ m : Nat, n = m := ⟨n.toNat, by omega⟩
def cells (l : List UInt8) : List Value := l.map fun b => .int .u8 b.toNat
theorem cells_app (a b : List UInt8) : cells (a ++ b) = cells a ++ cells b := by simp [cells]
theorem cells_length (a : List UInt8) : (cells a).length = a.length := by simp [cells]
theorem one_new (w : World) (v : Value) (t : TypeId) : ∀ (j : Nat) u, [v][j]? = some u → (w.alloc (.cells #[v] t)).cell? ((⟨w.heap.size, 0, none⟩ : Addr).add j) = some u := by
  intro j u hj
  match j, hj with
  | 0, hj =>
    simp at hj
    subst hj
    simp [Addr.add]
  | j + 1, hj => simp at hj
theorem info_parts {t : TypeId} {i : Option TypeInfo} {z : Option Value} {a b : Nat} (h : i.map (fun i => (i.zero, i.size, i.bytes)) = some (z, a, b)) : ∃ i0, i = some i0 ∧ i0.zero = z ∧ i0.size = a ∧ i0.bytes = b := by
  cases i with
  | none => simp at h
  | some i0 =>
    simp only [Option.map_some, Option.some.injEq, Prod.mk.injEq] at h
    exact ⟨i0, rfl, h.1, h.2.1, h.2.2⟩
theorem conv_own {w : World} {B g cap : Nat} {l : List UInt8} (h : w.ownsRow B 5 1 (.slice (some ⟨g, 0, none⟩) l.length cap) l.length (cells l)) :
    (convert 48 9 (.slice (some ⟨g, 0, none⟩) l.length cap)).run Tryz.prog w = .ok (.string ⟨l.toArray⟩) w :=
  run_convert_bytes_back (P := Tryz.prog) w 48 9 5 ⟨g, 0, none⟩ cap l Tryz.underlying48 Tryz.underlying5 Tryz.underlying9 (fun j hj => World.ownsRow.cells h rfl j _ (by simp [cells, List.getElem?_eq_getElem hj]))
def NumPost (l : List UInt8) (w : World) (r : Ending) (w' : World) : Prop := ∃ t : ByteArray, r = .returned (.string t) ∧ t.data.toList = l ∧ Below w.heap.size w w'
theorem num_neg (n : Int) (w : World) (h : n < 0) : Calls Tryz.prog 99 #[.int .i64 n] w (NumPost [] w) := by
  go_enter Tryz.func99, Tryz.ntmps99
  go_wp2
  go_ret
  exact ⟨_, rfl, rfl, Below.refl _ _⟩
theorem byte_lo {n : Nat} (h : n < 128) : (IntKind.u8.wrap (n : Int)) = ((UInt8.ofNat n).toNat : Nat) := by
  rw [byte_of (by omega)]
  simp [IntKind.wrap, IntKind.bits, IntKind.signed]
  omega
set_option maxRecDepth 100000 in
set_option maxHeartbeats 1600000 in
theorem num_nat (n : Nat) (w : World) (h : n < 2 ^ 63) : Calls Tryz.prog 99 #[.int .i64 n] w (NumPost (nm n) w) := by
  have infoU : (Tryz.prog.info? 5).map (fun i => (i.zero, i.size, i.bytes)) = some (some (.int .u8 0), 1, 1) := by kernel_rfl
  obtain ⟨i0, hi, hz0, hz1, hz2⟩ := info_parts (t := 5) infoU
  have hn9 := nm_length (n := n) (k := 0) (by decide) (by have e : (128 : Nat) ^ (9 - 0) = 2 ^ 63 := by decide
                                                          omega)
  clear infoU
  have hz : ¬ (n : Int) < 0 := by omega
  go_enter Tryz.func99, Tryz.ntmps99
  go_wp2
  go_loopw [0, 3] (fun s0 s3 wr => ∃ (m : Nat) (done : List UInt8), s0 = .int .i64 m ∧ m ≤ n ∧ nm n = done ++ nm m ∧ wr.ownsRow w.heap.size 5 1 s3 done.length (cells done) ∧ Below w.heap.size w wr) (fun s0 _ _ => (Go.RowKit.intOf s0).toNat)
  case atStart => exact ⟨n, [], rfl, Nat.le_refl _, rfl, World.ownsRow_nil _ _ _ _, Below.refl _ _⟩
  case round =>
    obtain ⟨m, done, rfl, hmn, hnm, hown, hb⟩ := hrel
    have HO := Lib.hid hown
    have HB := Lib.hid hb
    have hbs := hb.size
    have Hnm := Lib.hid hnm
    have hdl : done.length ≤ 9 := by
      have := congrArg List.length hnm
      rw [List.length_append] at this
      omega
    clear hown hb hnm
    by_cases hm : m < 128
    · have hmz : ¬ (128 : Int) ≤ m := by omega
      go_wp2_with (first | (at_builtin; refine wpList_append_own _ rfl _ _ 48 rfl w.heap.size 5 i0 (.int .u8 0) 1 1 Tryz.underlying48 hi hz0 hz1 hz2 rfl (by decide) _ _ _ rfl (HO.out.alloc _) ⟨wr.heap.size, 0, none⟩ 1 1 [_] rfl rfl (one_new _ _ _) (fun x hx => by simp at hx; subst hx; rfl) (by unfold maxLen; omega) (by omega) (by simp; omega) ?_; intro v3 w3 hown3 hgrow3 hnil3; have HO3 := Lib.hid hown3; have HB3 := Lib.hid ((HB.out.alloc hbs _).grown hgrow3 (by simp; omega) (fun j hj => (HO.out.lt j hj).1)); have hbs3 := HB3.out.size; clear hown3 hgrow3 hnil3))
      have HN := Lib.hid (show nm n = done ++ [UInt8.ofNat m] by rw [Hnm.out, nm_lt hm])
      have HO4 : Hid (w3.ownsRow w.heap.size 5 1 v3 (nm n).length (cells (nm n))) := Lib.hid (by
        rw [HN.out, cells_app, List.length_append]
        have e : cells [UInt8.ofNat m] = [Value.int .u8 (m : Int)] := by
          unfold cells
          rw [List.map_singleton, byte_of (by omega)]
        rw [e]
        exact HO3.out)
      obtain ⟨g, cap, hv⟩ : ∃ g cap, v3 = .slice (some ⟨g, 0, none⟩) (nm n).length cap := by
        rcases HO4.out.2 with ⟨_, h0⟩ | ⟨g, cap, cur, hv, _⟩
        · exact absurd (List.eq_nil_of_length_eq_zero h0) (nm_ne n)
        · exact ⟨g, cap, hv⟩
      subst hv
      have hcv := conv_own HO4.out
      rw [hcv]
      simp only [Result.andThen]
      rw [Oper.upon_value]
      go_wp2
      go_ret
      exact ⟨_, rfl, rfl, HB3.out⟩
    · have hmz : (128 : Int) ≤ m := by omega
      go_wp2_with (first | (at_builtin; refine wpList_append_own _ rfl _ _ 48 rfl w.heap.size 5 i0 (.int .u8 0) 1 1 Tryz.underlying48 hi hz0 hz1 hz2 rfl (by decide) _ _ _ rfl (HO.out.alloc _) ⟨wr.heap.size, 0, none⟩ 1 1 [_] rfl rfl (one_new _ _ _) (fun x hx => by simp at hx; subst hx; rfl) (by unfold maxLen; omega) (by omega) (by simp; omega) ?_; intro v3 w3 hown3 hgrow3 hnil3; have HO3 := Lib.hid hown3; have HB3 := Lib.hid ((HB.out.alloc hbs _).grown hgrow3 (by simp; omega) (fun j hj => (HO.out.lt j hj).1)); have hbs3 := HB3.out.size; clear hown3 hgrow3 hnil3))
      go_roundw
      case rel =>
        refine ⟨m / 128, done ++ [UInt8.ofNat (m % 128 + 128)], by go_num, by omega, by rw [Hnm.out, nm_ge (by omega)]; simp, ?_, HB3.out⟩
        rw [cells_app, List.length_append]
        have e : cells [UInt8.ofNat (m % 128 + 128)] = [Value.int .u8 ((m : Int) % 128 + 128)] := by
          unfold cells
          rw [List.map_singleton, byte_of (by omega)]
          go_num
        rw [e]
        exact HO3.out
      case measure => simp [Go.RowKit.intOf]; omega
def textPost (s : ByteArray) := NumPost (textS s.data.toList)
theorem text_wr (s : ByteArray) (w : World) (h : (nm s.size).length + s.size ≤ maxLen) : Calls Tryz.prog 98 #[.string s] w (NumPost (textS s.data.toList) w) := by
  have hs : s.size < 2 ^ 63 := by unfold maxLen at h; omega
  have cN := num_nat s.size w hs
  unfold maxLen at h
  have H := Lib.hid h
  go_enter Tryz.func98, Tryz.ntmps98
  go_wp2_with fail
  refine cN.mono ?_
  rintro e w1 ⟨t, rfl, ht, hb⟩
  have Ht := Lib.hid ht
  have hts : t.size + s.size ≤ 9223372036854775807 := by rw [Lib.size_eq t, ht]; omega
  clear ht h
  go_wp2
  go_ret
  exact ⟨_, rfl, by unfold textS; rw [← Lib.size_eq, ← Ht.out]; simp [ByteArray.data_append], hb⟩
end CR
end Go.Proofs.YtiggdojppfblkaaGreatDoor
end

section
/- Layer 9: the contracts of the writer's texts, numbers, and of (*strings.Builder).String of an embedded builder. -/
namespace Go.Proofs.YtiggdojppfblkaaGreatDoor
open Go.RowKit Go.Lib
namespace AW
open CP CR AP GB

/-- The bytes that a builder holds. -/
abbrev Has (B b : Nat) (l : List UInt8) (w : World) : Prop := Is B b (Lib.byteCells l) w
theorem grown_below {w w' : World} (hb : Below w.heap.size w w') : w.grownBy w' none := ⟨hb.os, hb.tape, hb.output, hb.size, fun k hk _ => hb.block k hk⟩
theorem At.below {B b : Nat} {p : Value} {bs : List Value} {w w' : World} (h : GB.At B b p bs w) (hb : Below w.heap.size w w') : GB.At B b p bs w' := by
  have hlt := h.lt
  obtain ⟨hB, v, hbk, hown, hne⟩ := h
  exact ⟨hB, v, (hb.block _ hlt).trans hbk, hown.kept (grown_below hb) (by cases hv : v.ownBlock <;> simp), hne⟩
theorem Is.below {B b : Nat} {bs : List Value} {w w' : World} (h : GB.Is B b bs w) (hb : Below w.heap.size w w') : GB.Is B b bs w' := h.elim (fun x => .inl (At.below x hb)) (fun x => .inr (At.below x hb))
theorem Is.lt {B b : Nat} {bs : List Value} {w : World} (h : GB.Is B b bs w) : b < w.heap.size := h.elim (fun x => x.lt) (fun x => x.lt)
theorem Is.drew {B b : Nat} {bs : List Value} {w : World} (h : GB.Is B b bs w) : GB.Is B b bs w.drew := h
/-- What a call of the writer does. -/
structure Wrote (B b : Nat) (l : List UInt8) (w w' : World) : Prop where
  has : Has B b l w'
  below : Below B w w'
  kept : OthersKept 5 (some b) w w'
def WPost (B b : Nat) (l : List UInt8) (w : World) (r : Ending) (w' : World) : Prop := r = .returned (.tuple #[]) ∧ Wrote B b l w w'
/-- A block that no writer turns. -/
theorem kept_row {b g : Nat} {w w' : World} {cs : Array Value} {t : TypeId} {fz : Nat × Nat} (h : OthersKept 5 (some b) w w') (hg : w.heap[g]? = some (.cells cs t fz)) (ht : t ≠ 5) (hb : g ≠ b) : w'.heap[g]? = some (.cells cs t fz) :=
  h g _ hg (by simpa using hb) (fun c f e => by injection e with _ e2; exact ht e2)
theorem kept_below {b : Nat} {w w' : World} (h : Below w.heap.size w w') : OthersKept 5 (some b) w w' := fun k o hk _ _ => (h.block k (Array.getElem?_eq_some_iff.1 hk).1).trans hk
theorem is_kind {B b : Nat} {bs : List Value} {w : World} (h : GB.Is B b bs w) : ∃ cs fz, w.heap[b]? = some (.cells cs 61 fz) := by
  rcases h with ⟨_, v, hbk, _⟩ | ⟨_, v, hbk, _⟩
  · exact ⟨_, _, hbk⟩
  · exact ⟨_, _, hbk⟩
theorem kind_ne {B b g : Nat} {bs : List Value} {w : World} {cs : Array Value} {t : TypeId} {fz : Nat × Nat} (h : GB.Is B b bs w) (hg : w.heap[g]? = some (.cells cs t fz)) (ht : t ≠ 61) : g ≠ b := by
  rintro rfl
  obtain ⟨cs', fz', h'⟩ := is_kind h
  rw [hg] at h'
  injection h' with h'
  injection h' with _ e
  exact ht e
theorem flat_snoc {α : Type} (f : α → List UInt8) {l : List α} {k : Nat} {x : α} (h : l[k]? = some x) : (l.take (k + 1)).flatMap f = (l.take k).flatMap f ++ f x := by
  rw [List.take_add_one, h, Option.toList_some, List.flatMap_append]
  simp
theorem txt_bytes (l : List UInt8) : (⟨l.toArray⟩ : ByteArray).data.toList = l := by simp
def TInv (B b : Nat) (l : List UInt8) (ls : List (List UInt8)) (w : World) (s : Value) (wr : World) : Prop :=
  ∃ k : Nat, s = .int .i64 k ∧ k ≤ ls.length ∧ Wrote B b (l ++ (ls.take k).flatMap textS) w wr
set_option maxRecDepth 100000 in
set_option maxHeartbeats 3200000 in
theorem texts_any (B b g c : Nat) (l : List UInt8) (ls : List (List UInt8)) (cs : Array Value) (fz : Nat × Nat) (w : World) (h : Has B b l w) (hBw : B ≤ w.heap.size) (hrow : w.heap[g]? = some (.cells cs 9 fz))
    (hcs : ∀ (j : Nat) t, ls[j]? = some t → cs[j]? = some (.string ⟨t.toArray⟩)) (hlen : ls.length ≤ 1000) (hsm : ∀ t ∈ ls, t.length ≤ 1000000) (htot : l.length ≤ 10000000) :
    Calls Tryz.prog 67 #[.pointer (some ⟨b, 0, none⟩), .slice (some ⟨g, 0, none⟩) ls.length c] w (WPost B b (l ++ ls.flatMap textS) w) := by
  have hgb : g ≠ b := kind_ne h hrow (by decide)
  have hB0 : B ≤ b := by rcases h with ⟨h, _⟩ | ⟨h, _⟩ <;> exact h
  have HTot : Hid (∀ k, k ≤ ls.length → ((ls.take k).flatMap textS).length ≤ 1000100 * 1000) := Lib.hid (fun k hk => by
    have : ∀ m : List (List UInt8), (∀ t ∈ m, t.length ≤ 1000000) → (m.flatMap textS).length ≤ 1000100 * m.length := by
      intro m
      induction m with
      | nil => intro _; simp
      | cons t m ih =>
        intro hm
        have h1 := ih (fun x hx => hm x (List.mem_cons_of_mem _ hx))
        have h2 := hm t (List.mem_cons_self ..)
        have h3 := nm_len9 (n := t.length) (by omega)
        have h4 : (textS t).length = (nm t.length).length + t.length := by unfold textS; rw [List.length_append]
        rw [List.flatMap_cons, List.length_append, List.length_cons, h4]
        omega
    have h1 := this (ls.take k) (fun t ht => hsm t (List.mem_of_mem_take ht))
    have h2 : (ls.take k).length ≤ 1000 := by rw [List.length_take]; omega
    omega)
  have HH := Lib.hid h
  have HCs := Lib.hid hcs
  have HRow := Lib.hid hrow
  have HSm := Lib.hid hsm
  have HI : Hid (TInv B b l ls w (.int .i64 0) w) := Lib.hid ⟨0, rfl, Nat.zero_le _, ⟨by simpa using h, Below.refl _ _, OthersKept.refl _ _ _⟩⟩
  obtain ⟨n, hn⟩ : ∃ n, ls.length = n := ⟨_, rfl⟩
  have HN := Lib.hid hn
  rw [hn] at hlen ⊢
  have hnz : (n : Int) ≤ 1000 := by omega
  clear h hcs hrow hsm hn
  go_enter Tryz.func67, Tryz.ntmps67
  repeat (first | go_skip | go_guarded | go_step | go_upon)
  go_loopw [8] (fun s8 wr => TInv B b l ls w s8 wr) (fun s8 _ => n - (Go.RowKit.intOf s8).toNat)
  case atStart => exact HI.out
  case round =>
    obtain ⟨k, rfl, hk, hw⟩ := hrel
    have HW := Lib.hid hw
    rw [HN.out] at hk
    have hsz : w.heap.size ≤ wr.heap.size := hw.below.size
    have hrow2 := kept_row hw.kept HRow.out (by decide) hgb
    clear hw
    by_cases hlt : k < n
    · have hkz : (k : Int) < n := by omega
      obtain ⟨t, ht⟩ : ∃ t, ls[k]? = some t := ⟨ls[k]'(by rw [HN.out]; exact hlt), List.getElem?_eq_getElem _⟩
      have HT := Lib.hid ht
      obtain ⟨S, hS⟩ : ∃ S : ByteArray, ⟨t.toArray⟩ = S := ⟨_, rfl⟩
      have hSd : S.data.toList = t := by rw [← hS]
      have c0 : wr.cell? ⟨g, k, none⟩ = some (.string S) := by rw [cell_of_row wr g k _ _ _ hrow2, HCs.out k t ht, hS]
      have hSl : S.size ≤ 1000000 := by rw [Lib.size_eq, hSd]; exact HSm.out t (List.mem_of_getElem? ht)
      have hn9 := nm_len9 (n := S.size) (by omega)
      have CT := Lib.hid (fun W => text_wr S W (by unfold maxLen; omega))
      rw [hSd] at CT
      have HTx : Hid ((textS t).length ≤ 1000010) := Lib.hid (by
        have h1 := HSm.out t (List.mem_of_getElem? ht)
        have h2 := nm_len9 (n := t.length) (by omega)
        unfold textS
        rw [List.length_append]
        omega)
      clear hS hSd ht hrow2 hn9 hSl
      repeat (first | go_skip | go_guarded | go_step | go_upon)
      refine wp_region_noPanic ?_
      with_reducible refine QT.region_pick (S := fun _ => True) [0, 1, 2, 3] [4] 5 (by kernel_rfl) (by kernel_rfl) ?_ ?_ ?_
      · exact fun _ _ _ _ _ h => h
      · trivial
      intro _
      simp only [QT.pick, List.filterMap_cons, List.filterMap_nil, List.getElem?_cons_succ, List.getElem?_cons_zero, List.drop_succ_cons, List.drop_zero]
      iterate 4 (refine QT.wpTake_cons _ (by rfl) (by intro w' hSw; go_simp; first | done | rfl) ?_; try simp only [Act.put, List.setIfInBounds_toArray, List.set_cons_zero, List.set_cons_succ])
      refine QT.wpTake_nil ?_
      intro K' hK
      rw [if_pos (by rfl)]
      go_simp
      refine (CT.out wr.drew).mono ?_
      rintro r W1 ⟨T, rfl, hT, hb1⟩
      simp only []
      refine hK.out _ _ trivial ?_
      clear hK K'
      refine QT.wpDo_nil ?_
      try simp only [Act.put, List.setIfInBounds_toArray, List.set_cons_zero, List.set_cons_succ]
      have hb1' : Below wr.heap.size wr W1 := ⟨hb1.os, hb1.tape, hb1.output, hb1.size, hb1.block⟩
      have HTk := HTot.out k (by rw [HN.out]; omega)
      have hTl : T.size ≤ 1000010 := by rw [Lib.size_eq, hT]; exact HTx.out
      have CS := Lib.hid (str_any B b _ T W1 (Is.below HW.out.has hb1') (by rw [Lib.byteCells_length, List.length_append]; omega) (by have := hb1'.size; omega))
      have HB1 := Lib.hid hb1'
      have HTd := Lib.hid hT
      clear hb1 hb1' hT
      repeat (first | (go_at_call 97; refine CS.out.mono ?_; rintro r W2 ⟨rfl, hi, hb2, hk2⟩; simp only []; have HI2 := Lib.hid hi; have HB2 := Lib.hid hb2; have HK2 := Lib.hid hk2; clear hi hb2 hk2) | go_skip | go_guarded | go_step | go_upon)
      refine NoPanic.normal ?_
      repeat (first | go_skip | go_guarded | go_step | go_upon)
      refine ⟨⟨k + 1, by go_num, by rw [HN.out]; omega, ?_, ?_, ?_⟩, by simp [Go.RowKit.intOf]; omega⟩
      · have e : Lib.byteCells (l ++ (ls.take (k + 1)).flatMap textS) = Lib.byteCells (l ++ (ls.take k).flatMap textS) ++ Lib.strCells T := by
          rw [flat_snoc textS HT.out, Lib.strCells_eq, HTd.out, ← List.append_assoc, Lib.byteCells_append]
        show GB.Is B b _ _
        rw [e]
        exact HI2.out
      · exact HW.out.below.trans ((HB1.out.mono (by omega)).trans HB2.out)
      · exact HW.out.kept.trans ((kept_below HB1.out).trans HK2.out)
    · have hkz : ¬ (k : Int) < n := by omega
      have hkn : k = n := by omega
      subst hkn
      clear hlt
      repeat (first | go_skip | go_guarded | go_step | go_upon)
      go_end0
      refine ⟨rfl, ?_⟩
      have := HW.out
      rw [List.take_of_length_le (by rw [HN.out]; exact Nat.le_refl _)] at this
      exact this
def NInv (B b : Nat) (l : List UInt8) (ls : List Int) (w : World) (s : Value) (wr : World) : Prop :=
  ∃ k : Nat, s = .int .i64 k ∧ k ≤ ls.length ∧ Wrote B b (l ++ (ls.take k).flatMap numS) w wr
set_option maxRecDepth 100000 in
set_option maxHeartbeats 3200000 in
theorem numbers_any (B b g c : Nat) (l : List UInt8) (ls : List Int) (cs : Array Value) (fz : Nat × Nat) (w : World) (h : Has B b l w) (hBw : B ≤ w.heap.size) (hrow : w.heap[g]? = some (.cells cs 3 fz))
    (hcs : ∀ (j : Nat) t, ls[j]? = some t → cs[j]? = some (.int .i64 t)) (hlen : ls.length ≤ 1000) (hsm : ∀ t ∈ ls, 0 ≤ t ∧ t < 9223372036854775808) (htot : l.length ≤ 10000000) :
    Calls Tryz.prog 68 #[.pointer (some ⟨b, 0, none⟩), .slice (some ⟨g, 0, none⟩) ls.length c] w (WPost B b (l ++ ls.flatMap numS) w) := by
  have hgb : g ≠ b := kind_ne h hrow (by decide)
  have hB0 : B ≤ b := by rcases h with ⟨h, _⟩ | ⟨h, _⟩ <;> exact h
  have HTot : Hid (∀ k, k ≤ ls.length → ((ls.take k).flatMap numS).length ≤ 1000100 * 1000) := Lib.hid (fun k hk => by
    have : ∀ m : List Int, (∀ t ∈ m, 0 ≤ t ∧ t < 9223372036854775808) → (m.flatMap numS).length ≤ 1000100 * m.length := by
      intro m
      induction m with
      | nil => intro _; simp
      | cons t m ih =>
        intro hm
        have h1 := ih (fun x hx => hm x (List.mem_cons_of_mem _ hx))
        have h2 := hm t (List.mem_cons_self ..)
        have h3 := nm_len9 (n := t.toNat) (by omega)
        rw [List.flatMap_cons, List.length_append, List.length_cons, numS_nat h2.1]
        omega
    have h1 := this (ls.take k) (fun t ht => hsm t (List.mem_of_mem_take ht))
    have h2 : (ls.take k).length ≤ 1000 := by rw [List.length_take]; omega
    omega)
  have HH := Lib.hid h
  have HCs := Lib.hid hcs
  have HRow := Lib.hid hrow
  have HSm := Lib.hid hsm
  have HI : Hid (NInv B b l ls w (.int .i64 0) w) := Lib.hid ⟨0, rfl, Nat.zero_le _, ⟨by simpa using h, Below.refl _ _, OthersKept.refl _ _ _⟩⟩
  obtain ⟨n, hn⟩ : ∃ n, ls.length = n := ⟨_, rfl⟩
  have HN := Lib.hid hn
  rw [hn] at hlen ⊢
  have hnz : (n : Int) ≤ 1000 := by omega
  clear h hcs hrow hsm hn
  go_enter Tryz.func68, Tryz.ntmps68
  repeat (first | go_skip | go_guarded | go_step | go_upon)
  go_loopw [8] (fun s8 wr => NInv B b l ls w s8 wr) (fun s8 _ => n - (Go.RowKit.intOf s8).toNat)
  case atStart => exact HI.out
  case round =>
    obtain ⟨k, rfl, hk, hw⟩ := hrel
    have HW := Lib.hid hw
    rw [HN.out] at hk
    have hsz : w.heap.size ≤ wr.heap.size := hw.below.size
    have hrow2 := kept_row hw.kept HRow.out (by decide) hgb
    clear hw
    by_cases hlt : k < n
    · have hkz : (k : Int) < n := by omega
      obtain ⟨t, ht⟩ : ∃ t, ls[k]? = some t := ⟨ls[k]'(by rw [HN.out]; exact hlt), List.getElem?_eq_getElem _⟩
      have HT := Lib.hid ht
      have c0 : wr.cell? ⟨g, k, none⟩ = some (.int .i64 t) := by rw [cell_of_row wr g k _ _ _ hrow2, HCs.out k t ht]
      obtain ⟨t0, t1⟩ := HSm.out t (List.mem_of_getElem? ht)
      have CT : Hid (∀ W, Calls Tryz.prog 99 #[.int .i64 t] W (NumPost (numS t) W)) := Lib.hid (fun W => by
        have := num_nat t.toNat W (by omega)
        rw [Int.toNat_of_nonneg t0, ← numS_nat t0] at this
        exact this)
      have HTx : Hid ((numS t).length ≤ 1000010) := Lib.hid (by
        have h2 := nm_len9 (n := t.toNat) (by omega)
        rw [numS_nat t0]
        omega)
      clear ht hrow2 t0 t1
      repeat (first | go_skip | go_guarded | go_step | go_upon)
      refine wp_region_noPanic ?_
      with_reducible refine QT.region_pick (S := fun _ => True) [0, 1, 2, 3] [4] 5 (by kernel_rfl) (by kernel_rfl) ?_ ?_ ?_
      · exact fun _ _ _ _ _ h => h
      · trivial
      intro _
      simp only [QT.pick, List.filterMap_cons, List.filterMap_nil, List.getElem?_cons_succ, List.getElem?_cons_zero, List.drop_succ_cons, List.drop_zero]
      iterate 4 (refine QT.wpTake_cons _ (by rfl) (by intro w' hSw; go_simp; first | done | rfl) ?_; try simp only [Act.put, List.setIfInBounds_toArray, List.set_cons_zero, List.set_cons_succ])
      refine QT.wpTake_nil ?_
      intro K' hK
      rw [if_pos (by rfl)]
      go_simp
      refine (CT.out wr.drew).mono ?_
      rintro r W1 ⟨T, rfl, hT, hb1⟩
      simp only []
      refine hK.out _ _ trivial ?_
      clear hK K'
      refine QT.wpDo_nil ?_
      try simp only [Act.put, List.setIfInBounds_toArray, List.set_cons_zero, List.set_cons_succ]
      have hb1' : Below wr.heap.size wr W1 := ⟨hb1.os, hb1.tape, hb1.output, hb1.size, hb1.block⟩
      have HTk := HTot.out k (by rw [HN.out]; omega)
      have hTl : T.size ≤ 1000010 := by rw [Lib.size_eq, hT]; exact HTx.out
      have CS := Lib.hid (str_any B b _ T W1 (Is.below HW.out.has hb1') (by rw [Lib.byteCells_length, List.length_append]; omega) (by have := hb1'.size; omega))
      have HB1 := Lib.hid hb1'
      have HTd := Lib.hid hT
      clear hb1 hb1' hT
      repeat (first | (go_at_call 97; refine CS.out.mono ?_; rintro r W2 ⟨rfl, hi, hb2, hk2⟩; simp only []; have HI2 := Lib.hid hi; have HB2 := Lib.hid hb2; have HK2 := Lib.hid hk2; clear hi hb2 hk2) | go_skip | go_guarded | go_step | go_upon)
      refine NoPanic.normal ?_
      repeat (first | go_skip | go_guarded | go_step | go_upon)
      refine ⟨⟨k + 1, by go_num, by rw [HN.out]; omega, ?_, ?_, ?_⟩, by simp [Go.RowKit.intOf]; omega⟩
      · have e : Lib.byteCells (l ++ (ls.take (k + 1)).flatMap numS) = Lib.byteCells (l ++ (ls.take k).flatMap numS) ++ Lib.strCells T := by
          rw [flat_snoc numS HT.out, Lib.strCells_eq, HTd.out, ← List.append_assoc, Lib.byteCells_append]
        show GB.Is B b _ _
        rw [e]
        exact HI2.out
      · exact HW.out.below.trans ((HB1.out.mono (by omega)).trans HB2.out)
      · exact HW.out.kept.trans ((kept_below HB1.out).trans HK2.out)
    · have hkz : ¬ (k : Int) < n := by omega
      have hkn : k = n := by omega
      subst hkn
      clear hlt
      repeat (first | go_skip | go_guarded | go_step | go_upon)
      go_end0
      refine ⟨rfl, ?_⟩
      have := HW.out
      rw [List.take_of_length_le (by rw [HN.out]; exact Nat.le_refl _)] at this
      exact this
end AW
end Go.Proofs.YtiggdojppfblkaaGreatDoor
end
